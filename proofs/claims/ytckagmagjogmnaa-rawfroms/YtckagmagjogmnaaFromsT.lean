/-
  RawFroms comes out true: the walk.
-/
import Derived.Test.YtckagmagjogmnaaKnownR
import Derived.Test.YtckagmagjogmnaaWld
import Derived.Test.YtckagmagjogmnaaStepX
import Derived.Test.YtckagmagjogmnaaFromT
import Derived.Test.YtckagmagjogmnaaRefFrom
import Derived.Test.YtckagmagjogmnaaFewQ
import Derived.Test.YtckagmagjogmnaaToT
import Derived.Test.YtckagmagjogmnaaTyO2
import Derived.Test.YtckagmagjogmnaaChkT
import Derived.Test.YtckagmagjogmnaaRightW2
import Derived.Test.YtckagmagjogmnaaSameR
namespace Go.Proofs.Ytckagmagjogmnaa
open Go Go.RowKit Go.Sort

theorem smallB_parts {cs ms ctx : List Ty} (h : smallB cs ms ctx = true) : sizeL cs ≤ 1200 ∧ sizeL ms ≤ 1200 ∧ sizeL ctx ≤ 1200 ∧ ctx.length ≤ 20 ∧ ∀ u ∈ ctx, u.size ≤ 60 := by
  unfold smallB at h
  simp only [Bool.and_eq_true, Bool.not_eq_true', Bool.or_eq_false_iff, decide_eq_false_iff_not, List.all_append, List.all_eq_true] at h
  obtain ⟨⟨⟨h1, h2⟩, h3⟩, ⟨h4, h5⟩, h6⟩ := h
  have hs : ∀ u : Ty, fewB 60 60 u = true → u.size ≤ 60 := fun u h => by unfold fewB at h; simp at h; exact h.1
  have k1 := sizeL_le cs 60 fun u hu => hs u (h4 u hu)
  have k2 := sizeL_le ms 60 fun u hu => hs u (h5 u hu)
  have k3 := sizeL_le ctx 60 fun u hu => hs u (h6 u hu)
  exact ⟨by omega, by omega, by omega, by omega, fun u hu => hs u (h6 u hu)⟩
theorem smallB_more {cs ms ctx : List Ty} (h : smallB cs ms ctx = true) : cs.length ≤ 20 ∧ ms.length ≤ 20 ∧ (∀ u ∈ cs, u.size ≤ 60) ∧ ∀ u ∈ ms, u.size ≤ 60 := by
  unfold smallB at h
  simp only [Bool.and_eq_true, Bool.not_eq_true', Bool.or_eq_false_iff, decide_eq_false_iff_not, List.all_append, List.all_eq_true] at h
  obtain ⟨⟨⟨h1, h2⟩, h3⟩, ⟨h4, h5⟩, h6⟩ := h
  have hs : ∀ u : Ty, fewB 60 60 u = true → u.size ≤ 60 := fun u h => by unfold fewB at h; simp at h; exact h.1
  exact ⟨by omega, by omega, fun u hu => hs u (h4 u hu), fun u hu => hs u (h5 u hu)⟩
theorem HoldsT.t {w : World} {ok : Nat → Prop} {ts : List Tm} {v : Value} (h : HoldsT w ok ts v) : HoldsT w okT ts v := h.mono fun _ _ _ => trivial
theorem raw_rng (t : Tm) : t.rng → t.raw.rng := by
  induction t using Tm.ind with
  | h t ih =>
  intro h
  rw [t.rng_eq, rngT_iff] at h
  rw [t.raw_eq]
  have h1 : ∀ (l : List Rw) (f : Rw), f.rng → (∀ a ∈ l, a.rng) → (appsR f l).rng := by
    intro l
    induction l with
    | nil => intro f hf _; exact hf
    | cons a l ih2 => intro f hf ha; exact ih2 (appR f a) ⟨⟨by decide, by decide⟩, ⟨by decide, by decide⟩, hf, ha a (by simp), trivial⟩ (fun b hb => ha b (by simp [hb]))
  have h2 : ∀ (l : List Ty) (b : Rw), b.rng → (lamsR b l).rng := by
    intro l
    induction l with
    | nil => intro b hb; exact hb
    | cons y l ih2 => intro b hb; exact ⟨⟨by decide, by decide⟩, ⟨by decide, by decide⟩, ih2 b hb, trivial⟩
  refine h2 _ _ (h1 _ _ ⟨h.1.1, h.1.2, trivial⟩ fun a ha => ?_)
  rw [rawT_map] at ha
  obtain ⟨u, hu, rfl⟩ := List.mem_map.1 ha
  exact ih u hu (h.2 u hu)
def actBF3 (N : Nat) (z1 : Option Addr) (z2 z3 : Nat) (y0 y2 y4 y6 y10 y11 y12 y13 y14 y15 y16 y17 y18 y19 y20 y21 y22 y23 y24 y25 y26 y27 y34 y35 y36 y37 y38 y39 y40 y41 y42 y43 y44 y45 y46 y47 y48 y49 y50 y51 y52 y53 y54 y55 y56 y57 y58 y59 y60 y61 y62 y63 y64 y65 y66 y67 y68 y69 y70 y71 y72 y73 y74 y75 y76 y77 y78 y79 y80 y81 y82 y83 y84 y85 y86 y87 y88 y89 y90 y91 y92 y93 y94 y95 y96 y97 y98 : Value) (u : Nat → Value) : Act :=
  { tmps := #[y0, .slice z1 z2 z3, y2, .pointer (some ⟨N, 0, none⟩), y4, .pointer (some ⟨N + 1, 0, none⟩), y6, u 7, u 8, u 9, y10, y11, y12, y13, y14, y15, y16, y17, y18, y19, y20, y21, y22, y23, y24, y25, y26, y27, u 28, u 29, u 30, u 31, u 32, u 33, y34, y35, y36, y37, y38, y39, y40, y41, y42, y43, y44, y45, y46, y47, y48, y49, y50, y51, y52, y53, y54, y55, y56, y57, y58, y59, y60, y61, y62, y63, y64, y65, y66, y67, y68, y69, y70, y71, y72, y73, y74, y75, y76, y77, y78, y79, y80, y81, y82, y83, y84, y85, y86, y87, y88, y89, y90, y91, y92, y93, y94, y95, y96, y97, y98], defers := [] }
set_option maxRecDepth 100000 in
theorem over_actBF3 (N : Nat) (z1 : Option Addr) (z2 z3 : Nat) (y0 y2 y4 y6 y10 y11 y12 y13 y14 y15 y16 y17 y18 y19 y20 y21 y22 y23 y24 y25 y26 y27 y34 y35 y36 y37 y38 y39 y40 y41 y42 y43 y44 y45 y46 y47 y48 y49 y50 y51 y52 y53 y54 y55 y56 y57 y58 y59 y60 y61 y62 y63 y64 y65 y66 y67 y68 y69 y70 y71 y72 y73 y74 y75 y76 y77 y78 y79 y80 y81 y82 y83 y84 y85 y86 y87 y88 y89 y90 y91 y92 y93 y94 y95 y96 y97 y98 : Value) (u0 u : Nat → Value) : over (fun s => (Nat.ble 7 s && Nat.ble s 9) || (Nat.ble 28 s && Nat.ble s 33)) u (actBF3 N z1 z2 z3 y0 y2 y4 y6 y10 y11 y12 y13 y14 y15 y16 y17 y18 y19 y20 y21 y22 y23 y24 y25 y26 y27 y34 y35 y36 y37 y38 y39 y40 y41 y42 y43 y44 y45 y46 y47 y48 y49 y50 y51 y52 y53 y54 y55 y56 y57 y58 y59 y60 y61 y62 y63 y64 y65 y66 y67 y68 y69 y70 y71 y72 y73 y74 y75 y76 y77 y78 y79 y80 y81 y82 y83 y84 y85 y86 y87 y88 y89 y90 y91 y92 y93 y94 y95 y96 y97 y98 u0) = actBF3 N z1 z2 z3 y0 y2 y4 y6 y10 y11 y12 y13 y14 y15 y16 y17 y18 y19 y20 y21 y22 y23 y24 y25 y26 y27 y34 y35 y36 y37 y38 y39 y40 y41 y42 y43 y44 y45 y46 y47 y48 y49 y50 y51 y52 y53 y54 y55 y56 y57 y58 y59 y60 y61 y62 y63 y64 y65 y66 y67 y68 y69 y70 y71 y72 y73 y74 y75 y76 y77 y78 y79 y80 y81 y82 y83 y84 y85 y86 y87 y88 y89 y90 y91 y92 y93 y94 y95 y96 y97 y98 u := rfl
def VBF3 (cs ms ctx : List Ty) (bs : Int) (t : Tm) (c1 m1 z1 x1 y1 : Option Addr) (c2 cn m2 mn z2 z3 x2 x3 y2 y3 : Nat) (s : Nat) (w : World) (ok : Nat → Prop) (v : Value) : Prop := match s with
  | 28 => v = wov bs (.slice c1 cn c2) (.slice m1 mn m2)
  | 29 => ∃ p1 p2 p3 q1 q2 q3, v = wov bs (.slice p1 p2 p3) (.slice q1 q2 q3) ∧ Holds w ok cs (.slice p1 p2 p3) ∧ Holds w ok ms (.slice q1 q2 q3)
  | 30 => v = .slice z1 z2 z3
  | 31 => ∃ p1 p2 p3, v = .slice p1 p2 p3 ∧ Holds w ok ctx (.slice p1 p2 p3)
  | 32 => v = tmv (.slice x1 x2 x3) t.kind t.idx (.slice y1 y2 y3)
  | 33 => ∃ a1 n1 c1 a2 n2 c2, v = tmv (.slice a1 n1 c1) t.kind t.idx (.slice a2 n2 c2) ∧ Holds w ok t.binds (.slice a1 n1 c1) ∧ HoldsT w ok t.args (.slice a2 n2 c2)
  | 8 => ∃ p1 p2 p3, v = .slice p1 p2 p3 ∧ Holds w ok ctx (.slice p1 p2 p3)
  | _ => True
theorem VBF3.keep (cs ms ctx : List Ty) (bs : Int) (t : Tm) (c1 m1 z1 x1 y1 : Option Addr) (c2 cn m2 mn z2 z3 x2 x3 y2 y3 : Nat) (s : Nat) (w w' : World) (ok ok' : Nat → Prop) (v : Value) (h : VBF3 cs ms ctx bs t c1 m1 z1 x1 y1 c2 cn m2 mn z2 z3 x2 x3 y2 y3 s w ok v) (hsz : w.heap.size ≤ w'.heap.size) (hkp : ∀ m, m < w.heap.size → ok m → w'.heap[m]? = w.heap[m]? ∧ ok' m) : VBF3 cs ms ctx bs t c1 m1 z1 x1 y1 c2 cn m2 mn z2 z3 x2 x3 y2 y3 s w' ok' v := by
  have _ := hsz
  revert h
  unfold VBF3
  split <;> intro h
  · exact h
  · obtain ⟨p1, p2, p3, q1, q2, q3, e0, h1, h2⟩ := h; exact ⟨p1, p2, p3, q1, q2, q3, e0, h1.keep hkp, h2.keep hkp⟩
  · exact h
  · obtain ⟨p1, p2, p3, e0, h1⟩ := h; exact ⟨p1, p2, p3, e0, h1.keep hkp⟩
  · exact h
  · obtain ⟨a1, n1, c1, a2, n2, c2, e0, h1, h2⟩ := h; exact ⟨a1, n1, c1, a2, n2, c2, e0, h1.keep hkp, h2.keep hkp⟩
  · obtain ⟨p1, p2, p3, e0, h1⟩ := h; exact ⟨p1, p2, p3, e0, h1.keep hkp⟩
  · trivial

def actF6 (N D : Nat) (y0 y1 y2 y3 y4 y6 y7 y8 y9 y11 y13 y14 y15 y16 y17 y18 y19 y20 y21 y22 y23 y24 y25 y26 y27 y28 y29 y30 y31 y32 y33 y34 y35 y36 y37 y38 y39 y40 y50 y51 y52 y53 y54 y55 y56 y57 y58 y59 y60 y61 y62 y63 y64 y65 y66 y67 y68 y69 y70 y71 y72 y73 y74 y75 y76 y77 y78 y79 y80 y81 y82 y83 y84 y85 y86 y87 y88 y89 y90 y91 y92 y93 y94 y95 y96 y97 y98 : Value) (u : Nat → Value) : Act :=
  { tmps := #[y0, y1, y2, y3, y4, .pointer (some ⟨(N + 1), 0, none⟩), y6, y7, y8, y9, .pointer (some ⟨D, 0, none⟩), y11, .bool false, y13, y14, y15, y16, y17, y18, y19, y20, y21, y22, y23, y24, y25, y26, y27, y28, y29, y30, y31, y32, y33, y34, y35, y36, y37, y38, y39, y40, u 41, u 42, u 43, u 44, u 45, u 46, u 47, u 48, u 49, y50, y51, y52, y53, y54, y55, y56, y57, y58, y59, y60, y61, y62, y63, y64, y65, y66, y67, y68, y69, y70, y71, y72, y73, y74, y75, y76, y77, y78, y79, y80, y81, y82, y83, y84, y85, y86, y87, y88, y89, y90, y91, y92, y93, y94, y95, y96, y97, y98], defers := [] }
set_option maxRecDepth 100000 in
theorem over_actF6 (N D : Nat) (y0 y1 y2 y3 y4 y6 y7 y8 y9 y11 y13 y14 y15 y16 y17 y18 y19 y20 y21 y22 y23 y24 y25 y26 y27 y28 y29 y30 y31 y32 y33 y34 y35 y36 y37 y38 y39 y40 y50 y51 y52 y53 y54 y55 y56 y57 y58 y59 y60 y61 y62 y63 y64 y65 y66 y67 y68 y69 y70 y71 y72 y73 y74 y75 y76 y77 y78 y79 y80 y81 y82 y83 y84 y85 y86 y87 y88 y89 y90 y91 y92 y93 y94 y95 y96 y97 y98 : Value) (u0 u : Nat → Value) : over (fun s => Nat.ble 41 s && Nat.ble s 49) u (actF6 N D y0 y1 y2 y3 y4 y6 y7 y8 y9 y11 y13 y14 y15 y16 y17 y18 y19 y20 y21 y22 y23 y24 y25 y26 y27 y28 y29 y30 y31 y32 y33 y34 y35 y36 y37 y38 y39 y40 y50 y51 y52 y53 y54 y55 y56 y57 y58 y59 y60 y61 y62 y63 y64 y65 y66 y67 y68 y69 y70 y71 y72 y73 y74 y75 y76 y77 y78 y79 y80 y81 y82 y83 y84 y85 y86 y87 y88 y89 y90 y91 y92 y93 y94 y95 y96 y97 y98 u0) = actF6 N D y0 y1 y2 y3 y4 y6 y7 y8 y9 y11 y13 y14 y15 y16 y17 y18 y19 y20 y21 y22 y23 y24 y25 y26 y27 y28 y29 y30 y31 y32 y33 y34 y35 y36 y37 y38 y39 y40 y50 y51 y52 y53 y54 y55 y56 y57 y58 y59 y60 y61 y62 y63 y64 y65 y66 y67 y68 y69 y70 y71 y72 y73 y74 y75 y76 y77 y78 y79 y80 y81 y82 y83 y84 y85 y86 y87 y88 y89 y90 y91 y92 y93 y94 y95 y96 y97 y98 u := rfl
def VF6 (q : Rw) (t : Tm) (x1 y1 d1 e1 : Option Addr) (x2 x3 y2 y3 d2 d3 e2 e3 : Nat) (s : Nat) (w : World) (v : Value) : Prop := match s with
  | 41 => v = .bool false
  | 42 => v = .bool false
  | 43 => v = .agg #[.int .i64 q.kind, .slice d1 d2 d3, .int .i64 q.ty.base, .int .i64 q.idx, .slice e1 e2 e3]
  | 44 => ∃ g1 gn g2 h1 hn h2, v = rwv q.kind (.slice g1 gn g2) q.ty.base q.idx (.slice h1 hn h2) ∧ Holds w okT q.ty.args (.slice g1 gn g2) ∧ HoldsR w okT q.kids (.slice h1 hn h2)
  | 45 => v = .agg #[.slice x1 x2 x3, .int .i64 t.kind, .int .i64 t.idx, .slice y1 y2 y3]
  | 46 => ∃ g1 gn g2 h1 hn h2, v = rwv q.kind (.slice g1 gn g2) q.ty.base q.idx (.slice h1 hn h2) ∧ Holds w okT q.ty.args (.slice g1 gn g2) ∧ HoldsR w okT q.kids (.slice h1 hn h2)
  | 47 => v = .bool true
  | 48 => v = .bool false
  | 49 => v = .bool false
  | _ => True
theorem VF6.mono {q : Rw} {t : Tm} {x1 y1 d1 e1 : Option Addr} {x2 x3 y2 y3 d2 d3 e2 e3 : Nat} {s : Nat} {w w' : World} {v : Value} (h : VF6 q t x1 y1 d1 e1 x2 x3 y2 y3 d2 d3 e2 e3 s w v) (hb : Below w.heap.size w w') : VF6 q t x1 y1 d1 e1 x2 x3 y2 y3 d2 d3 e2 e3 s w' v := by
  revert h
  unfold VF6
  split <;> intro h
  · exact h
  · exact h
  · exact h
  · obtain ⟨g1, gn, g2, h1, hn, h2, e, j1, j2⟩ := h; exact ⟨g1, gn, g2, h1, hn, h2, e, j1.bel hb, j2.bel hb⟩
  · exact h
  · obtain ⟨g1, gn, g2, h1, hn, h2, e, j1, j2⟩ := h; exact ⟨g1, gn, g2, h1, hn, h2, e, j1.bel hb, j2.bel hb⟩
  · exact h
  · exact h
  · exact h
  · trivial

set_option maxRecDepth 100000 in
set_option maxHeartbeats 8000000 in
theorem Froms_calls (cs ms ctx : List Ty) (bs : Int) (t : Tm) (cv mv xv sa ra : Value) (w : World) (hc : Holds w okT cs cv) (hm : Holds w okT ms mv) (hx : Holds w okT ctx xv) (ha : Holds w okT t.binds sa) (ha' : HoldsT w okT t.args ra) (hrg : t.rng) :
    Calls Try.prog 7 #[wov bs cv mv, xv, tmv sa t.kind t.idx ra] w fun e w' => e = .returned (.bool true) ∧ Below w.heap.size w w' := by
  obtain ⟨c1, c2, rfl, _⟩ := hc.shape
  obtain ⟨m1, m2, rfl, _⟩ := hm.shape
  obtain ⟨z1, z3, rfl, _⟩ := hx.shape
  obtain ⟨x1, x3, rfl, _⟩ := ha.shape
  obtain ⟨y1, y3, rfl, _⟩ := ha'.shape
  obtain ⟨cn, hcn⟩ : ∃ n, cs.length = n := ⟨_, rfl⟩
  obtain ⟨mn, hmn⟩ : ∃ n, ms.length = n := ⟨_, rfl⟩
  obtain ⟨z2, hz2⟩ : ∃ n, ctx.length = n := ⟨_, rfl⟩
  obtain ⟨x2, hx2⟩ : ∃ n, t.binds.length = n := ⟨_, rfl⟩
  obtain ⟨y2, hy2⟩ : ∃ n, t.args.length = n := ⟨_, rfl⟩
  rw [hcn] at hc ⊢
  rw [hmn] at hm ⊢
  rw [hz2] at hx ⊢
  rw [hx2] at ha ⊢
  rw [hy2] at ha' ⊢
  obtain ⟨N, hN⟩ : ∃ N, w.heap.size = N := ⟨_, rfl⟩
  rw [hN]
  obtain ⟨W0, hW0⟩ : ∃ W0, (w.alloc (.cells #[.int .i64 bs, .slice c1 cn c2, .slice m1 mn m2] 47)).alloc (.cells #[.slice x1 x2 x3, .int .i64 t.kind, .int .i64 t.idx, .slice y1 y2 y3] 71) = W0 := ⟨_, rfl⟩
  have b0 : Blk W0 N 47 #[.int .i64 bs, .slice c1 cn c2, .slice m1 mn m2] := by rw [← hW0]; exact (Blk.new' w N 47 _ hN).alloc _
  have b1 : Blk W0 (N + 1) 71 #[.slice x1 x2 x3, .int .i64 t.kind, .int .i64 t.idx, .slice y1 y2 y3] := by rw [← hW0]; exact Blk.new' _ (N + 1) 71 _ (by simp [hN])
  have hz0 : W0.heap.size = N + 2 := by rw [← hW0]; simp [hN]
  have bl0 : Below N w W0 := by rw [← hW0]; exact ((Below.refl N w).alloc (by omega) _).alloc (by simp; omega) _
  have hc0 := hc.bel (hN ▸ bl0)
  have hm0 := hm.bel (hN ▸ bl0)
  have hx0 := hx.bel (hN ▸ bl0)
  have ha0 := ha.bel (hN ▸ bl0)
  have ha0' := ha'.bel (hN ▸ bl0)
  obtain ⟨W1, hW1⟩ : ∃ W1, W0.alloc (.cells #[.slice x1 x2 x3, .int .i64 t.kind, .int .i64 t.idx, .slice y1 y2 y3] 71) = W1 := ⟨_, rfl⟩
  have bb1 : Below W0.heap.size W0 W1 := by rw [← hW1]; exact (Below.refl _ _).alloc (Nat.le_refl _) _
  have hF1 : HoldsT W1 okT [t] (.slice (some ⟨N + 2, 0, none⟩) 1 1) := by rw [← hW1]; exact holdsT_one W0 (N + 2) hz0 t 71 x1 x2 x3 y1 y2 y3 ha0 ha0'
  obtain ⟨r1, hr1⟩ : ∃ r, fewTB 150 70 t = r := ⟨_, rfl⟩
  have hfl := FewL_callsQ [t] okT _ W1 hF1 (by simp)
  rw [show [t].all (fewTB 150 70) = r1 by rw [← hr1]; simp] at hfl
  obtain ⟨r2, hr2⟩ : ∃ r, smallB cs ms ctx = r := ⟨_, rfl⟩
  have HR1 : Hid _ := hr1
  have HR2 : Hid _ := hr2
  have hsm := fun (cur : World) (h : Cur W0 cur) => Small_calls cs ms ctx bs (.slice c1 cn c2) (.slice m1 mn m2) (.slice z1 z2 z3) cur (h.holds hc0) (h.holds hm0) (h.holds hx0)
  simp only [hr2] at hsm
  have HW : Hid _ := hW0
  have HW1 : Hid _ := hW1
  have c0 := b1.cell 0
  have c1' := b1.cell 1
  have c2' := b1.cell 2
  have c3 := b1.cell 3
  have hzN : N ≤ W0.heap.size := by omega
  clear hW0 hW1 hr1 hr2 hF1 ha ha' hc hm hx hcn hmn hz2 hx2 hy2
  go_enter Try.func7, Try.ntmps7
  go_upto_region 1 with fail
  rw [HW.out]
  clear HW
  go_wp2_with fail
  rw [HW1.out]
  clear HW1
  refine hfl.mono ?_
  rintro e w1 ⟨rfl, hb1⟩
  have hc1 : Cur W0 w1 := (show Cur W0 W1 from bb1).then hb1
  clear hfl hb1 bb1 c0 c1' c2' c3
  cases r1 with
  | false =>
    go_wp2_with fail
    refine (known_calls _).mono ?_
    rintro e w4 ⟨rfl, hb4⟩
    go_wp2
    go_ret
    exact ⟨rfl, bl0.trans (Below.mono (hc1.then hb4) hzN)⟩
  | true =>
  have htota := total_of_fewQ HR1.out
  clear HR1
  have g0 := hc1.cell (b0.cell 0)
  have g1 := hc1.cell (b0.cell 1)
  have g2 := hc1.cell (b0.cell 2)
  have hs2 := hsm w1 hc1
  clear hsm
  go_wp2_with fail
  refine hs2.mono ?_
  rintro e w2 ⟨rfl, hb2⟩
  have hc2 : Cur W0 w2 := hc1.then hb2
  clear hs2 hb2 g0 g1 g2
  cases r2 with
  | false =>
    go_wp2_with fail
    refine (known_calls _).mono ?_
    rintro e w4 ⟨rfl, hb4⟩
    go_wp2
    go_ret
    exact ⟨rfl, bl0.trans (Below.mono (hc2.then hb4) hzN)⟩
  | true =>
  obtain ⟨hzc, hzm, hzx, hlx, hxs⟩ := smallB_parts HR2.out
  have HW20 : Hid _ := smallB_more HR2.out
  clear HR2
  have k0 := b0.below hc2 b0.lt
  have k1 := b1.below hc2 b1.lt
  have hc2' := hc2.holds hc0
  have hm2 := hc2.holds hm0
  have hx2 := hc2.holds hx0
  have ha2 := hc2.holds ha0
  have ha2' := ha0'.bel hc2
  have bl2 : Below N w w2 := bl0.trans (Below.mono hc2 hzN)
  have hz2 : N ≤ w2.heap.size := by have := bl2.size; omega
  clear b0 b1 bl0 hc0 hm0 hx0 ha0 ha0' hc1 hc2 hz0 hzN
  go_upto_region 3 with fail
  go_cut [7, 8, 9] (fun s7 s8 s9 wx => ∃ (A B : Nat) (p1 : Option Addr) (p2 p3 : Nat) (q1 : Option Addr) (q2 q3 : Nat) (t1 : Option Addr) (t2 t3 : Nat) (n1 : Option Addr) (n2 n3 : Nat) (n4 : Option Addr) (n5 n6 : Nat), s7 = .pointer (some ⟨A, 0, none⟩) ∧ s8 = .slice t1 t2 t3 ∧ s9 = .pointer (some ⟨B, 0, none⟩) ∧
    Blk wx A 57 #[.int .i64 bs, .slice p1 p2 p3, .slice q1 q2 q3] ∧ Blk wx B 76 #[.slice n1 n2 n3, .int .i64 t.kind, .int .i64 t.idx, .slice n4 n5 n6] ∧ Holds wx okT cs (.slice p1 p2 p3) ∧ Holds wx okT ms (.slice q1 q2 q3) ∧ Holds wx okT ctx (.slice t1 t2 t3) ∧
    Holds wx okT t.binds (.slice n1 n2 n3) ∧ HoldsT wx okT t.args (.slice n4 n5 n6) ∧ Below w2.heap.size w2 wx)
  case first =>
    rename_i K Q' hKs
    refine (wpIn_wide (n := 9)).1 ?_
    show Code.wpIn Fence.wide 9 Try.prog (Code.region 3 _ true) _ (actBF3 N z1 z2 z3 (wov bs (.slice c1 cn c2) (.slice m1 mn m2)) (tmv (.slice x1 x2 x3) t.kind t.idx (.slice y1 y2 y3)) (undef) (.bool false) (undef) (undef) (undef) (undef) (undef) (undef) (undef) (tmv (.slice x1 x2 x3) t.kind t.idx (.slice y1 y2 y3)) (.slice (some ⟨N + 2, 0, none⟩) 1 1) (.bool true) (.bool false) (.bool false) (wov bs (.slice c1 cn c2) (.slice m1 mn m2)) (.slice z1 z2 z3) (.bool true) (.bool false) (.bool false) (undef) (undef) (undef) (undef) (undef) (undef) (undef) (undef) (undef) (undef) (undef) (undef) (undef) (undef) (undef) (undef) (undef) (undef) (undef) (undef) (undef) (undef) (undef) (undef) (undef) (undef) (undef) (undef) (undef) (undef) (undef) (undef) (undef) (undef) (undef) (undef) (undef) (undef) (undef) (undef) (undef) (undef) (undef) (undef) (undef) (undef) (undef) (undef) (undef) (undef) (undef) (undef) (undef) (undef) (undef) (undef) (undef) (undef) (undef) (undef) (undef) (undef) (undef) (undef) (undef) (undef) (fun | 7 => undef | 8 => undef | 9 => undef | 28 => undef | 29 => undef | 30 => undef | 31 => undef | 32 => undef | 33 => undef | _ => undef)) w2
    refine region_boxes [(0, 0), (1, 0), (2, 0), (3, 0), (4, 0), (5, 0), (9, 1)] [⟨7, 29, 57, #[.int .i64 0, .slice none 0 0, .slice none 0 0], 6, 0, 8⟩, ⟨9, 33, 76, #[.slice none 0 0, .int .i64 0, .int .i64 0, .slice none 0 0], 7, 0, 10⟩] (fun s => (Nat.ble 7 s && Nat.ble s 9) || (Nat.ble 28 s && Nat.ble s 33)) (VBF3 cs ms ctx bs t c1 m1 z1 x1 y1 c2 cn m2 mn z2 z3 x2 x3 y2 y3) (by kernel_rfl) (by kernel_rfl) (by kernel_rfl) (by kernel_rfl) (by kernel_rfl) (by kernel_rfl) (by kernel_rfl) (VBF3.keep cs ms ctx bs t c1 m1 z1 x1 y1 c2 cn m2 mn z2 z3 x2 x3 y2 y3) ⟨?_, ?_, ?_, ?_, ?_, ?_, ?_, trivial⟩ ⟨⟨?_, ?_⟩, ⟨?_, ?_⟩, trivial⟩ ?_
    · intro o ho uu ok w hB hk K' hK
      cases ho
      have g0 := (cat hB k0.lt).trans (k0.cell 0)
      have g1 := (cat hB k0.lt).trans (k0.cell 1)
      have g2 := (cat hB k0.lt).trans (k0.cell 2)
      have hK3 := hK (wov bs (.slice c1 cn c2) (.slice m1 mn m2)) w (fun s hs => by cases hs; exact rfl) (Below.refl _ _)
      simp only [over_actBF3] at hK3 ⊢
      clear hK hk
      unfold actBF3 at hK3 ⊢
      refine want_plain rfl ?_
      go_simp
      exact hK3
    · intro o ho uu ok w hB hk K' hK
      cases ho
      have e28 : uu 28 = wov bs (.slice c1 cn c2) (.slice m1 mn m2) := hk 28 (by decide +kernel) rfl
      have hcall := World_calls cs ms bs _ _ w (hc2'.bel hB) (hm2.bel hB) (by omega) (by omega)
      have hK3 := fun (w2 : World) (p1 : Option Addr) (p2 p3 : Nat) (q1 : Option Addr) (q2 q3 : Nat) (h1 : Holds w2 (fun m => w.heap.size ≤ m) cs (.slice p1 p2 p3)) (h2 : Holds w2 (fun m => w.heap.size ≤ m) ms (.slice q1 q2 q3)) (hb2 : Below w.heap.size w w2) => hK (wov bs (.slice p1 p2 p3) (.slice q1 q2 q3)) w2 (fun s hs => by cases hs; exact ⟨p1, p2, p3, q1, q2, q3, rfl, h1.mono (fun _ _ h => .inl h), h2.mono (fun _ _ h => .inl h)⟩) hb2
      simp only [over_actBF3] at hK3 ⊢
      clear hK hk
      unfold actBF3 at hK3 ⊢
      simp only [e28] at hK3 ⊢
      refine want_plain rfl ?_
      go_simp
      refine ⟨trivial, (callsIn_wide.2 hcall).mono ?_⟩
      rintro e w2 ⟨p1, p2, p3, q1, q2, q3, rfl, h1, h2, hbw⟩
      exact hK3 w2 p1 p2 p3 q1 q2 q3 h1 h2 hbw
    · intro o ho uu ok w hB hk K' hK
      cases ho
      have hK3 := hK (.slice z1 z2 z3) w (fun s hs => by cases hs; exact rfl) (Below.refl _ _)
      simp only [over_actBF3] at hK3 ⊢
      clear hK hk
      unfold actBF3 at hK3 ⊢
      refine want_plain rfl ?_
      go_simp
      exact hK3
    · intro o ho uu ok w hB hk K' hK
      cases ho
      have e30 : uu 30 = .slice z1 z2 z3 := hk 30 (by decide +kernel) rfl
      have hcall := TypesT_calls ctx okT _ w (hx2.bel hB) (by omega)
      have hK3 := fun (w2 : World) (p1 : Option Addr) (p2 p3 : Nat) (h1 : Holds w2 (fun m => w.heap.size ≤ m) ctx (.slice p1 p2 p3)) (hb2 : Below w.heap.size w w2) => hK (.slice p1 p2 p3) w2 (fun s hs => by cases hs; exact ⟨p1, p2, p3, rfl, h1.mono (fun _ _ h => .inl h)⟩) hb2
      simp only [over_actBF3] at hK3 ⊢
      clear hK hk
      unfold actBF3 at hK3 ⊢
      simp only [e30] at hK3 ⊢
      refine want_plain rfl ?_
      go_simp
      refine ⟨trivial, (callsIn_wide.2 hcall).mono ?_⟩
      rintro e w2 ⟨vv, rfl, h1, hbw⟩
      obtain ⟨p1, p3, rfl, _⟩ := h1.shape
      exact hK3 w2 p1 _ p3 h1 hbw
    · intro o ho uu ok w hB hk K' hK
      cases ho
      have g0 := (cat hB k1.lt).trans (k1.cell 0)
      have g1 := (cat hB k1.lt).trans (k1.cell 1)
      have g2 := (cat hB k1.lt).trans (k1.cell 2)
      have g3 := (cat hB k1.lt).trans (k1.cell 3)
      have hK3 := hK (tmv (.slice x1 x2 x3) t.kind t.idx (.slice y1 y2 y3)) w (fun s hs => by cases hs; exact rfl) (Below.refl _ _)
      simp only [over_actBF3] at hK3 ⊢
      clear hK hk
      unfold actBF3 at hK3 ⊢
      refine want_plain rfl ?_
      go_simp
      exact hK3
    · intro o ho uu ok w hB hk K' hK
      cases ho
      have e32 : uu 32 = tmv (.slice x1 x2 x3) t.kind t.idx (.slice y1 y2 y3) := hk 32 (by decide +kernel) rfl
      have hcall := ToT_calls t okT _ _ w (ha2.bel hB) (ha2'.bel hB) (by omega)
      have hK3 := fun (w2 : World) (a1 : Option Addr) (n1 c1 : Nat) (a2 : Option Addr) (n2 c2 : Nat) (h1 : Holds w2 (fun m => w.heap.size ≤ m) t.binds (.slice a1 n1 c1)) (h2 : HoldsT w2 (fun m => w.heap.size ≤ m) t.args (.slice a2 n2 c2)) (hb2 : Below w.heap.size w w2) => hK (tmv (.slice a1 n1 c1) t.kind t.idx (.slice a2 n2 c2)) w2 (fun s hs => by cases hs; exact ⟨a1, n1, c1, a2, n2, c2, rfl, h1.mono (fun _ _ h => .inl h), h2.mono (fun _ _ h => .inl h)⟩) hb2
      simp only [over_actBF3] at hK3 ⊢
      clear hK hk
      unfold actBF3 at hK3 ⊢
      simp only [e32] at hK3 ⊢
      refine want_plain rfl ?_
      go_simp
      refine ⟨trivial, (callsIn_wide.2 hcall).mono ?_⟩
      rintro e w2 ⟨vb, vr, rfl, h1, h2, hbw⟩
      obtain ⟨a1, c1, rfl, _⟩ := h1.shape
      obtain ⟨a2, c2, rfl, _⟩ := h2.shape
      exact hK3 w2 a1 _ c1 a2 _ c2 h1 h2 hbw
    · intro o ho uu ok w hB hk K' hK
      cases ho
      obtain ⟨p1_31, p2_31, p3_31, e31, h31_1⟩ := hk 31 (by decide +kernel) rfl
      have hK3 := hK (.slice p1_31 p2_31 p3_31) w (fun s hs => by cases hs; exact ⟨p1_31, p2_31, p3_31, rfl, h31_1.mono (fun _ _ h => .inr h)⟩) (Below.refl _ _)
      simp only [over_actBF3] at hK3 ⊢
      clear hK hk
      unfold actBF3 at hK3 ⊢
      simp only [e31] at hK3 ⊢
      refine want_plain rfl ?_
      go_simp
      exact hK3
    · intro o ho uu w K' hK
      cases ho
      simp only [over_actBF3] at hK ⊢
      unfold actBF3 at hK ⊢
      refine want_plain rfl ?_
      go_simp
      exact hK
    · intro o ho uu ok w m hm hb hv K' hK
      cases ho
      dsimp only at hm hb hv hK
      obtain ⟨p1, p2, p3, q1, q2, q3, e29, h1, h2⟩ := hv
      have fz0 := hb.frozen 0
      have cz0 := hb.cell 0
      have fz1 := hb.frozen 1
      have cz1 := hb.cell 1
      have fz2 := hb.frozen 2
      have cz2 := hb.cell 2
      have b9 := (((hb.set 0 (.int .i64 bs)).set 1 (.slice p1 p2 p3)).set 2 (.slice q1 q2 q3))
      have o9 := ((((Only.refl [m] w).set (B := m) (by simp) 0 (.int .i64 bs)).set (B := m) (by simp) 1 (.slice p1 p2 p3)).set (B := m) (by simp) 2 (.slice q1 q2 q3))
      rw [e29] at hK
      have hK3 := hK _ b9 o9
      simp only [over_actBF3] at hK3 ⊢
      clear hK b9 o9
      unfold actBF3 at hK3 ⊢
      simp only [hm, e29] at hK3 ⊢
      refine want_plain rfl ?_
      go_simp
      exact hK3
    · intro o ho uu w K' hK
      cases ho
      simp only [over_actBF3] at hK ⊢
      unfold actBF3 at hK ⊢
      refine want_plain rfl ?_
      go_simp
      exact hK
    · intro o ho uu ok w m hm hb hv K' hK
      cases ho
      dsimp only at hm hb hv hK
      obtain ⟨a1, n1, c1, a2, n2, c2, e33, h1, h2⟩ := hv
      have fz0 := hb.frozen 0
      have cz0 := hb.cell 0
      have fz1 := hb.frozen 1
      have cz1 := hb.cell 1
      have fz2 := hb.frozen 2
      have cz2 := hb.cell 2
      have fz3 := hb.frozen 3
      have cz3 := hb.cell 3
      have b9 := ((((hb.set 0 (.slice a1 n1 c1)).set 1 (.int .i64 t.kind)).set 2 (.int .i64 t.idx)).set 3 (.slice a2 n2 c2))
      have o9 := (((((Only.refl [m] w).set (B := m) (by simp) 0 (.slice a1 n1 c1)).set (B := m) (by simp) 1 (.int .i64 t.kind)).set (B := m) (by simp) 2 (.int .i64 t.idx)).set (B := m) (by simp) 3 (.slice a2 n2 c2))
      rw [e33] at hK
      have hK3 := hK _ b9 o9
      simp only [over_actBF3] at hK3 ⊢
      clear hK b9 o9
      unfold actBF3 at hK3 ⊢
      simp only [hm, e33] at hK3 ⊢
      refine want_plain rfl ?_
      go_simp
      exact hK3
    · intro uu w' hB hv hbx
      obtain ⟨p1_29, p2_29, p3_29, q1_29, q2_29, q3_29, e29, h29_1, h29_2⟩ := hv 29 (by decide +kernel) (by decide +kernel)
      obtain ⟨a1_33, n1_33, c1_33, a2_33, n2_33, c2_33, e33, h33_1, h33_2⟩ := hv 33 (by decide +kernel) (by decide +kernel)
      obtain ⟨p1_8, p2_8, p3_8, e8, h8_1⟩ := hv 8 (by decide +kernel) (by decide +kernel)
      obtain ⟨m0, em0, gm0, bm0⟩ := hbx _ List.mem_cons_self
      simp only [e29] at bm0
      obtain ⟨m1, em1, gm1, bm1⟩ := hbx _ (by apply List.mem_cons_of_mem; exact List.mem_cons_self)
      simp only [e33] at bm1
      rw [over_actBF3]
      refine hKs _ _ ?_
      unfold actBF3
      simp only [e29, e33, e8, em0, em1]
      go_wp2_with fail
      go_meet
      exact ⟨m0, m1, p1_29, p2_29, p3_29, q1_29, q2_29, q3_29, p1_8, p2_8, p3_8, a1_33, n1_33, c1_33, a2_33, n2_33, c2_33, rfl, rfl, rfl, bm0, bm1, h29_1.t, h29_2.t, h8_1.t, h33_1.t, HoldsT.t h33_2, hB⟩
  case rest =>
  obtain ⟨A, B, p1, p2, p3, q1, q2, q3, t1, t2, t3, n1, n2, n3, n4, n5, n6, rfl, rfl, rfl, bA, bB, hcs, hms, hxx, hna, hnk, hBc⟩ := hcut
  have hB3 : Below N w wc := bl2.trans (hBc.mono hz2)
  have hz3 := hBc.size
  have l1 := k1.below hBc k1.lt
  have hta := ha2.bel hBc
  have htk := ha2'.bel hBc
  have hcalm := raw_calm t
  have hrr := raw_rng t hrg
  have hrt := raw_total t
  obtain ⟨q, hq⟩ : ∃ q, t.raw = q := ⟨_, rfl⟩
  have kF := From_calls t okT (.slice n1 n2 n3) (.slice n4 n5 n6) wc hna hnk (by omega)
  have kRF := fun (cur : World) (sb sr : Value) (h1 : Holds cur okT t.binds sb) (h2 : HoldsT cur okT t.args sr) => refFrom_calls t okT sb sr cur h1 h2 (by omega)
  have htyp := fun (ty : Ty) (h : t.is cs ms ctx ty = true) (hr : q.right = true) => from_infer (bs := bs) h (by rw [hq]; exact hr)
  simp only [hq] at kF kRF htyp hcalm hrr hrt
  have HRF : Hid _ := kRF
  have HTY : Hid _ := htyp
  have hqt : q.total ≤ 600 := by omega
  have HQ : Hid (q.rng ∧ q.lit ∧ q.fit ∧ q.total ≤ 600) := ⟨hrr, q.lit_of_total (by omega), Rw.fit_of_total _ (by omega), hqt⟩
  have HZ : Hid (sizeL cs ≤ 1200 ∧ sizeL ms ≤ 1200 ∧ ctx.length ≤ 20 ∧ ∀ u ∈ ctx, u.size ≤ 60) := ⟨hzc, hzm, hlx, hxs⟩
  have HT : Hid (t.rng ∧ t.total ≤ 150) := ⟨hrg, htota⟩
  have g0 := bB.cell 0
  have g1 := bB.cell 1
  have g2 := bB.cell 2
  have g3 := bB.cell 3
  clear hq k0 k1 hc2' hm2 hx2 ha2 ha2' hzc hzm hzx hlx hxs hrg htota bl2 kRF htyp hrr hrt
  go_upto_region 4 with fail
  go_wp2_with fail
  refine kF.mono ?_
  rintro e w3 ⟨vb, vr, rfl, hvb, hvr, hO3⟩
  obtain ⟨d1, d3, rfl, _⟩ := hvb.shape
  obtain ⟨e1, e3, rfl, _⟩ := hvr.shape
  obtain ⟨d2, hd2⟩ : ∃ n, q.ty.args.length = n := ⟨_, rfl⟩
  obtain ⟨e2, he2⟩ : ∃ n, q.kids.length = n := ⟨_, rfl⟩
  rw [hd2] at hvb ⊢
  rw [he2] at hvr ⊢
  have hb3 : Below wc.heap.size wc w3 := hO3.bel rfl
  obtain ⟨D, hD⟩ : ∃ D, w3.heap.size = D := ⟨_, rfl⟩
  obtain ⟨W4, hW4⟩ : ∃ W4, w3.alloc (.cells #[.int .i64 q.kind, .slice d1 d2 d3, .int .i64 q.ty.base, .int .i64 q.idx, .slice e1 e2 e3] 35) = W4 := ⟨_, rfl⟩
  have hb4 : Below w3.heap.size w3 W4 := by rw [← hW4]; exact (Below.refl _ _).alloc (Nat.le_refl _) _
  have hb34 : Below wc.heap.size wc W4 := hb3.trans (hb4.mono hb3.size)
  have bD4 : Blk W4 D 35 #[.int .i64 q.kind, .slice d1 d2 d3, .int .i64 q.ty.base, .int .i64 q.idx, .slice e1 e2 e3] := by rw [← hW4]; exact Blk.new' w3 D 35 _ hD
  have hqa4 := (hvb.t).bel hb4
  have hqk4 := (HoldsR.t hvr).bel hb4
  have bA4 := bA.below hb34 bA.lt
  have bB4 := bB.below hb34 bB.lt
  have l14 := l1.below hb34 l1.lt
  have hcs4 := hcs.bel hb34
  have hms4 := hms.bel hb34
  have hxx4 := hxx.bel hb34
  have hna4 := hna.bel hb34
  have hnk4 := hnk.bel hb34
  have hta4 := hta.bel hb34
  have htk4 := htk.bel hb34
  have hB4 : Below N w W4 := hB3.trans (hb34.mono (by omega))
  have kS := StepF_calls q okT (.slice d1 d2 d3) (.slice e1 e2 e3) W4 hqa4 hqk4 HQ.out.2.2.1 (by have := q.size_le_total; omega)
  unfold StepTold at kS
  rw [show (q.step false).2 = false from hcalm] at kS
  obtain ⟨y, hy⟩ : ∃ y, (q.step false).1 = y := ⟨_, rfl⟩
  rw [hy] at kS
  have j0 := bD4.cell 0
  have j1 := bD4.cell 1
  have j2 := bD4.cell 2
  have j3 := bD4.cell 3
  have j4 := bD4.cell 4
  have HW4 : Hid _ := hW4
  have hz4 := hb34.size
  clear hW4 hvb hvr bA bB hcs hms hxx hna hnk hta htk hb3 hb4 hb34 hO3 l1 hB3 hBc kF g0 g1 g2 g3 hd2 he2 hy hcalm
  go_upto_region 5 with fail
  rw [HW4.out]
  clear HW4 hD
  go_wp2_with fail
  refine kS.mono ?_
  rintro e w5 ⟨vb, vr, rfl, hvb, hvr, hb5⟩
  clear kS j0 j1 j2 j3 j4
  obtain ⟨f1, f3, rfl, _⟩ := hvb.shape
  obtain ⟨g1, g3, rfl, _⟩ := hvr.shape
  generalize y.ty.args.length = f2 at *
  generalize y.kids.length = g2 at *
  obtain ⟨E, hE⟩ : ∃ E, w5.heap.size = E := ⟨_, rfl⟩
  obtain ⟨W6, hW6⟩ : ∃ W6, w5.alloc (.cells #[.int .i64 y.kind, .slice f1 f2 f3, .int .i64 y.ty.base, .int .i64 y.idx, .slice g1 g2 g3] 35) = W6 := ⟨_, rfl⟩
  have hb6 : Below w5.heap.size w5 W6 := by rw [← hW6]; exact (Below.refl _ _).alloc (Nat.le_refl _) _
  have hb56 : Below W4.heap.size W4 W6 := hb5.trans (hb6.mono hb5.size)
  have bD6 := bD4.below hb56 bD4.lt
  have bA6 := bA4.below hb56 bA4.lt
  have bB6 := bB4.below hb56 bB4.lt
  have l16 := l14.below hb56 l14.lt
  have hqa6 := hqa4.bel hb56
  have hqk6 := hqk4.bel hb56
  have hcs6 := hcs4.bel hb56
  have hms6 := hms4.bel hb56
  have hxx6 := hxx4.bel hb56
  have hna6 := hna4.bel hb56
  have hnk6 := hnk4.bel hb56
  have hta6 := hta4.bel hb56
  have htk6 := htk4.bel hb56
  have hB6 : Below N w W6 := hB4.trans (hb56.mono (by have := bD4.lt; omega))
  have hz6 : N ≤ W6.heap.size := by have := hb56.size; omega
  have HW6 : Hid _ := hW6
  clear hW6 hvb hvr bD4 bA4 bB4 l14 hqa4 hqk4 hcs4 hms4 hxx4 hna4 hnk4 hta4 htk4 hb5 hb6 hb56 hB4 hz4 hz3
  go_upto_region 6 with fail
  rw [HW6.out]
  clear HW6 hE
  go_cut [49] (fun s49 wx => s49 = .bool false ∧ Below W6.heap.size W6 wx)
  case first =>
    rename_i K Q' hKs
    refine (wpIn_wide (n := 9)).1 ?_
    show Code.wpIn Fence.wide 9 Try.prog (Code.region 6 _ true) _ (actF6 N D (wov bs (.slice c1 cn c2) (.slice m1 mn m2)) (.slice z1 z2 z3) (tmv (.slice x1 x2 x3) t.kind t.idx (.slice y1 y2 y3)) (.pointer (some ⟨N, 0, none⟩)) (undef) (.bool false) (.pointer (some ⟨A, 0, none⟩)) (.slice t1 t2 t3) (.pointer (some ⟨B, 0, none⟩)) (.pointer (some ⟨E, 0, none⟩)) (undef) (undef) (undef) (undef) (u17) (u18) (u19) (u20) (u21) (u22) (u23) (u24) (u25) (u26) (u27) (u28) (u29) (u30) (u31) (u32) (u33) (.agg #[.slice n1 n2 n3, .int .i64 t.kind, .int .i64 t.idx, .slice n4 n5 n6]) (rwv q.kind (.slice d1 d2 d3) q.ty.base q.idx (.slice e1 e2 e3)) (.tuple #[rwv y.kind (.slice f1 f2 f3) y.ty.base y.idx (.slice g1 g2 g3), .bool false]) (.agg #[.int .i64 q.kind, .slice d1 d2 d3, .int .i64 q.ty.base, .int .i64 q.idx, .slice e1 e2 e3]) (.tuple #[rwv y.kind (.slice f1 f2 f3) y.ty.base y.idx (.slice g1 g2 g3), .bool false]) (rwv y.kind (.slice f1 f2 f3) y.ty.base y.idx (.slice g1 g2 g3)) (.bool false) (u50) (u51) (u52) (u53) (u54) (u55) (u56) (u57) (u58) (u59) (u60) (u61) (u62) (u63) (u64) (u65) (u66) (u67) (u68) (u69) (u70) (u71) (u72) (u73) (u74) (u75) (u76) (u77) (u78) (u79) (u80) (u81) (u82) (u83) (u84) (u85) (u86) (u87) (u88) (u89) (u90) (u91) (u92) (u93) (u94) (u95) (u96) (u97) (u98) (fun | 41 => u41 | 42 => u42 | 43 => u43 | 44 => u44 | 45 => u45 | 46 => u46 | 47 => u47 | 48 => u48 | 49 => u49 | _ => undef)) W6
    refine region_spine [(0, 0), (1, 0), (2, 0), (3, 0), (4, 0), (5, 0), (6, 0), (7, 0), (8, 0)] [] (fun s => Nat.ble 41 s && Nat.ble s 49) (fun _ => VF6 q t x1 y1 d1 e1 x2 x3 y2 y3 d2 d3 e2 e3) (fun _ w => Below (W6).heap.size W6 w) (by kernel_rfl) (by kernel_rfl) (by kernel_rfl) (by kernel_rfl) (fun _ _ _ _ _ h hb => h.mono hb) (fun _ _ _ h hb => h.trans (hb.mono h.size)) ((Below.refl _ _).drew) ⟨?_, ?_, ?_, ?_, ?_, ?_, ?_, ?_, ?_, trivial⟩ trivial ?_
    · intro o ho p hp _ z w hB hk K' hK
      cases ho
      have hK3 := hK (.bool false) w (fun s hs => by cases hs; exact rfl) (Below.refl _ _)
      simp only [over_actF6] at hK3 ⊢
      clear hK hk
      unfold actF6 at hK3 ⊢
      refine want_plain rfl ?_
      go_simp
      exact hK3
    · intro o ho p hp _ z w hB hk K' hK
      cases ho
      have e41 : z 41 = .bool false := hk 41 (by decide +kernel) rfl
      have hK3 := hK (.bool false) w (fun s hs => by cases hs; exact rfl) (Below.refl _ _)
      simp only [over_actF6] at hK3 ⊢
      clear hK hk
      unfold actF6 at hK3 ⊢
      simp only [e41] at hK3 ⊢
      refine want_plain rfl ?_
      go_simp
      exact hK3
    · intro o ho p hp _ z w hB hk K' hK
      cases ho
      have e42 : z 42 = .bool false := hk 42 (by decide +kernel) rfl
      have n0 := (cat hB bD6.lt).trans (bD6.cell 0)
      have n1 := (cat hB bD6.lt).trans (bD6.cell 1)
      have n2 := (cat hB bD6.lt).trans (bD6.cell 2)
      have n3 := (cat hB bD6.lt).trans (bD6.cell 3)
      have n4 := (cat hB bD6.lt).trans (bD6.cell 4)
      have hK3 := hK (.agg #[.int .i64 q.kind, .slice d1 d2 d3, .int .i64 q.ty.base, .int .i64 q.idx, .slice e1 e2 e3]) w (fun s hs => by cases hs; exact rfl) (Below.refl _ _)
      simp only [over_actF6] at hK3 ⊢
      clear hK hk
      unfold actF6 at hK3 ⊢
      simp only [e42] at hK3 ⊢
      refine want_yes rfl (by rfl) ?_
      go_simp
      exact hK3
    · intro o ho p hp _ z w hB hk K' hK
      cases ho
      have e43 : z 43 = .agg #[.int .i64 q.kind, .slice d1 d2 d3, .int .i64 q.ty.base, .int .i64 q.idx, .slice e1 e2 e3] := hk 43 (by decide +kernel) rfl
      have e42 : z 42 = .bool false := hk 42 (by decide +kernel) rfl
      have hcall := OfR_calls q okT _ _ w (hqa6.bel hB) (hqk6.bel hB) (by have := HQ.out.2.2.2; omega)
      have hK3 := fun (w2 : World) (g1 : Option Addr) (gn g2 : Nat) (h1 : Option Addr) (hn h2 : Nat) (j1 : Holds w2 okT q.ty.args (.slice g1 gn g2)) (j2 : HoldsR w2 okT q.kids (.slice h1 hn h2)) (hb2 : Below w.heap.size w w2) => hK (rwv q.kind (.slice g1 gn g2) q.ty.base q.idx (.slice h1 hn h2)) w2 (fun s hs => by cases hs; exact ⟨g1, gn, g2, h1, hn, h2, rfl, j1, j2⟩) hb2
      simp only [over_actF6] at hK3 ⊢
      clear hK hk
      unfold actF6 at hK3 ⊢
      simp only [e43, e42] at hK3 ⊢
      refine want_yes rfl (by rfl) ?_
      go_simp
      refine ⟨trivial, (callsIn_wide.2 hcall).mono ?_⟩
      rintro e w2 ⟨vb, vr, rfl, j1, j2, hb2⟩
      obtain ⟨g1, g2, rfl, _⟩ := j1.shape
      obtain ⟨h1, h2, rfl, _⟩ := j2.shape
      exact hK3 w2 g1 _ g2 h1 _ h2 (Holds.t j1) (HoldsR.t j2) hb2
    · intro o ho p hp _ z w hB hk K' hK
      cases ho
      have e42 : z 42 = .bool false := hk 42 (by decide +kernel) rfl
      have n0 := (cat hB l16.lt).trans (l16.cell 0)
      have n1 := (cat hB l16.lt).trans (l16.cell 1)
      have n2 := (cat hB l16.lt).trans (l16.cell 2)
      have n3 := (cat hB l16.lt).trans (l16.cell 3)
      have hK3 := hK (.agg #[.slice x1 x2 x3, .int .i64 t.kind, .int .i64 t.idx, .slice y1 y2 y3]) w (fun s hs => by cases hs; exact rfl) (Below.refl _ _)
      simp only [over_actF6] at hK3 ⊢
      clear hK hk
      unfold actF6 at hK3 ⊢
      simp only [e42] at hK3 ⊢
      refine want_yes rfl (by rfl) ?_
      go_simp
      exact hK3
    · intro o ho p hp _ z w hB hk K' hK
      cases ho
      have e45 : z 45 = .agg #[.slice x1 x2 x3, .int .i64 t.kind, .int .i64 t.idx, .slice y1 y2 y3] := hk 45 (by decide +kernel) rfl
      have e42 : z 42 = .bool false := hk 42 (by decide +kernel) rfl
      have hcall := HRF.out w _ _ (hta6.bel hB) (htk6.bel hB)
      have hK3 := fun (w2 : World) (g1 : Option Addr) (gn g2 : Nat) (h1 : Option Addr) (hn h2 : Nat) (j1 : Holds w2 okT q.ty.args (.slice g1 gn g2)) (j2 : HoldsR w2 okT q.kids (.slice h1 hn h2)) (hb2 : Below w.heap.size w w2) => hK (rwv q.kind (.slice g1 gn g2) q.ty.base q.idx (.slice h1 hn h2)) w2 (fun s hs => by cases hs; exact ⟨g1, gn, g2, h1, hn, h2, rfl, j1, j2⟩) hb2
      simp only [over_actF6] at hK3 ⊢
      clear hK hk
      unfold actF6 at hK3 ⊢
      simp only [e45, e42] at hK3 ⊢
      refine want_yes rfl (by rfl) ?_
      go_simp
      refine ⟨trivial, (callsIn_wide.2 hcall).mono ?_⟩
      rintro e w2 ⟨vb, vr, rfl, j1, j2, hb2⟩
      obtain ⟨g1, g2, rfl, _⟩ := j1.shape
      obtain ⟨h1, h2, rfl, _⟩ := j2.shape
      exact hK3 w2 g1 _ g2 h1 _ h2 (Holds.t j1) (HoldsR.t j2) hb2
    · intro o ho p hp _ z w hB hk K' hK
      cases ho
      have e42 : z 42 = .bool false := hk 42 (by decide +kernel) rfl
      obtain ⟨g1a, gna, g2a, h1a, hna, h2a, e44, j1a, j2a⟩ := hk 44 (by decide +kernel) rfl
      obtain ⟨g1b, gnb, g2b, h1b, hnb, h2b, e46, j1b, j2b⟩ := hk 46 (by decide +kernel) rfl
      have hs47 := SameR_calls q q okT okT _ _ _ _ w j1a j2a j1b j2b (by have := HQ.out.2.2.2; omega)
      rw [q.same_self] at hs47
      have hcall := hs47
      have hK3 := fun (w2 : World) (hb2 : Below w.heap.size w w2) => hK (.bool true) w2 (fun s hs => by cases hs; exact rfl) hb2
      simp only [over_actF6] at hK3 ⊢
      clear hK hk
      unfold actF6 at hK3 ⊢
      simp only [e42, e44, e46] at hK3 ⊢
      refine want_yes rfl (by rfl) ?_
      go_simp
      refine ⟨trivial, (callsIn_wide.2 hcall).mono ?_⟩
      rintro e w2 ⟨rfl, hb2⟩
      exact hK3 w2 hb2
    · intro o ho p hp _ z w hB hk K' hK
      cases ho
      have e47 : z 47 = .bool true := hk 47 (by decide +kernel) rfl
      have e42 : z 42 = .bool false := hk 42 (by decide +kernel) rfl
      have hK3 := hK (.bool false) w (fun s hs => by cases hs; exact rfl) (Below.refl _ _)
      simp only [over_actF6] at hK3 ⊢
      clear hK hk
      unfold actF6 at hK3 ⊢
      simp only [e47, e42] at hK3 ⊢
      refine want_yes rfl (by rfl) ?_
      go_simp
      exact hK3
    · intro o ho p hp _ z w hB hk K' hK
      cases ho
      have e42 : z 42 = .bool false := hk 42 (by decide +kernel) rfl
      have e48 : z 48 = .bool false := hk 48 (by decide +kernel) rfl
      have hK3 := hK (.bool false) w (fun s hs => by cases hs; exact rfl) (Below.refl _ _)
      simp only [over_actF6] at hK3 ⊢
      clear hK hk
      unfold actF6 at hK3 ⊢
      simp only [e42, e48] at hK3 ⊢
      refine want_plain rfl ?_
      go_simp
      exact hK3
    · intro z w' hB hv
      have e49 : z 49 = .bool false := hv 49 (by decide +kernel)
      rw [over_actF6]
      refine hKs _ _ ?_
      unfold actF6
      simp only [e49]
      go_wp2_with fail
      go_meet
      exact ⟨rfl, hB⟩
  case rest =>
  obtain ⟨rfl, hbc⟩ := hcut
  have bD7 := bD6.below hbc bD6.lt
  have bA7 := bA6.below hbc bA6.lt
  have bB7 := bB6.below hbc bB6.lt
  have hqa7 := hqa6.bel hbc
  have hqk7 := hqk6.bel hbc
  have hcs7 := hcs6.bel hbc
  have hms7 := hms6.bel hbc
  have hxx7 := hxx6.bel hbc
  have hna7 := hna6.bel hbc
  have hnk7 := hnk6.bel hbc
  have hB7 : Below N w wc := hB6.trans (hbc.mono hz6)
  have hz7 : N ≤ wc.heap.size := by have := hbc.size; omega
  clear bD6 bA6 bB6 l16 hqa6 hqk6 hcs6 hms6 hxx6 hna6 hnk6 hta6 htk6 hB6 hz6 hbc
  have hte := t.total_eq
  have htl := sizeL_length t.binds
  have hix : t.idx ≤ 9223372036854775807 := by have h9 := HT.out.1; rw [t.rng_eq] at h9; exact h9.1.2.2
  have kT := TypeOf_calls cs ms ctx t bs (.slice p1 p2 p3) (.slice q1 q2 q3) (.slice t1 t2 t3) (.slice n1 n2 n3) (.slice n4 n5 n6) wc hcs7 hms7 hxx7 hna7 hnk7 (by have := HZ.out.2.2.1; have := HT.out.2; omega) hix (by have := HT.out.2; omega)
  unfold Told at kT
  have g0 := bA7.cell 0
  have g1 := bA7.cell 1
  have g2 := bA7.cell 2
  have g3 := bB7.cell 0
  have g4 := bB7.cell 1
  have g5 := bB7.cell 2
  have g6 := bB7.cell 3
  clear hte htl hix
  go_upto_region 8 with fail
  go_wp2_with fail
  refine kT.mono ?_
  rintro e w8 ⟨hto, hb8⟩
  have bD8 := bD7.below hb8 bD7.lt
  have bA8 := bA7.below hb8 bA7.lt
  have bB8 := bB7.below hb8 bB7.lt
  have hqa8 := hqa7.bel hb8
  have hqk8 := hqk7.bel hb8
  have hcs8 := hcs7.bel hb8
  have hms8 := hms7.bel hb8
  have hxx8 := hxx7.bel hb8
  have hna8 := hna7.bel hb8
  have hnk8 := hnk7.bel hb8
  have hB8 : Below N w w8 := hB7.trans (hb8.mono hz7)
  have hz8 : N ≤ w8.heap.size := by have := hb8.size; omega
  clear kT g0 g1 g2 g3 g4 g5 g6 bD7 bA7 bB7 hqa7 hqk7 hcs7 hms7 hxx7 hna7 hnk7 hB7 hz7 hb8
  rcases hto with ⟨_, rfl⟩ | ⟨p, pa, pn, pc, hpt, hpa, rfl⟩
  · clear bD8 bA8 bB8 hqa8 hqk8 hcs8 hms8 hxx8 hna8 hnk8
    go_wp2_with fail
    refine (known_calls _).mono ?_
    rintro e w9 ⟨rfl, hb9⟩
    go_wp2
    go_ret
    exact ⟨rfl, (hB8.alloc hz8 _).trans (hb9.mono (by simp; omega))⟩
  · have hpz : p.size ≤ 1000000 := by
      unfold Tm.typeOf at hpt
      obtain ⟨h9, _, rfl⟩ := Option.map_eq_some_iff.1 hpt
      have h1 := t.total_eq
      have h2 := HT.out.2
      show 1 + sizeL t.binds ≤ _
      omega
    obtain ⟨F, hF⟩ : ∃ F, w8.heap.size = F := ⟨_, rfl⟩
    obtain ⟨W9, hW9⟩ : ∃ W9, w8.alloc (.cells #[.slice pa pn pc, .int .i64 p.base] 32) = W9 := ⟨_, rfl⟩
    have hb9 : Below w8.heap.size w8 W9 := by rw [← hW9]; exact (Below.refl _ _).alloc (Nat.le_refl _) _
    have bF9 : Blk W9 F 32 #[.slice pa pn pc, .int .i64 p.base] := by rw [← hW9]; exact Blk.new' w8 F 32 _ hF
    have bD9 := bD8.below hb9 bD8.lt
    have bA9 := bA8.below hb9 bA8.lt
    have bB9 := bB8.below hb9 bB8.lt
    have hqa9 := hqa8.bel hb9
    have hqk9 := hqk8.bel hb9
    have hcs9 := hcs8.bel hb9
    have hms9 := hms8.bel hb9
    have hxx9 := hxx8.bel hb9
    have hna9 := hna8.bel hb9
    have hnk9 := hnk8.bel hb9
    have hpa9 := hpa.bel hb9
    have hB9 : Below N w W9 := hB8.trans (hb9.mono hz8)
    have hz9 : N ≤ W9.heap.size := by have := hb9.size; omega
    have kC := Check_calls cs ms ctx t p bs (.slice p1 p2 p3) (.slice q1 q2 q3) (.slice t1 t2 t3) (.slice n1 n2 n3) (.slice n4 n5 n6) (.slice pa pn pc) W9 hcs9 hms9 hxx9 hna9 hnk9 hpa9 HT.out.1 (by have := HZ.out.2.2.1; have := HT.out.2; omega)
    obtain ⟨ce, hce⟩ : ∃ ce, chkI cs ms ctx t p = ce := ⟨_, rfl⟩
    rw [hce] at kC
    have g0 := bA9.cell 0
    have g1 := bA9.cell 1
    have g2 := bA9.cell 2
    have g3 := bB9.cell 0
    have g4 := bB9.cell 1
    have g5 := bB9.cell 2
    have g6 := bB9.cell 3
    have g7 := bF9.cell 0
    have g8 := bF9.cell 1
    have HW9 : Hid _ := hW9
    have HPZ : Hid (p.size ≤ 1000000) := hpz
    clear hW9 bD8 bA8 bB8 hqa8 hqk8 hcs8 hms8 hxx8 hna8 hnk8 hB8 hz8 hb9 hpa hpt hpz
    go_upto_region 9 with fail
    rw [HW9.out]
    clear HW9 hF
    go_wp2_with fail
    refine kC.mono ?_
    rintro e w10 ⟨rfl, hb10⟩
    have bD10 := bD9.below hb10 bD9.lt
    have bA10 := bA9.below hb10 bA9.lt
    have bF10 := bF9.below hb10 bF9.lt
    have hqa10 := hqa9.bel hb10
    have hqk10 := hqk9.bel hb10
    have hcs10 := hcs9.bel hb10
    have hms10 := hms9.bel hb10
    have hxx10 := hxx9.bel hb10
    have hpa10 := hpa9.bel hb10
    have hB10 : Below N w w10 := hB9.trans (hb10.mono hz9)
    have hz10 : N ≤ w10.heap.size := by have := hb10.size; omega
    clear kC g0 g1 g2 g3 g4 g5 g6 g7 g8 bD9 bA9 bB9 bF9 hqa9 hqk9 hcs9 hms9 hxx9 hna9 hnk9 hpa9 hB9 hz9 hb10
    by_cases hc0 : ce = 0
    · subst hc0
      have his : t.is cs ms ctx p = true := by
        unfold chkI at hce
        split at hce
        · split at hce
          · assumption
          · omega
        · omega
      have kRt := RightR_calls q okT (.slice d1 d2 d3) (.slice e1 e2 e3) w10 hqa10 hqk10 (by have := HQ.out.2.2.2; have := q.size_le_total; omega)
      obtain ⟨rb, hrb⟩ : ∃ rb, q.right = rb := ⟨_, rfl⟩
      rw [hrb] at kRt
      have g0 := bD10.cell 0
      have g1 := bD10.cell 1
      have g2 := bD10.cell 2
      have g3 := bD10.cell 3
      have g4 := bD10.cell 4
      have HIS : Hid _ := his
      clear hce his
      go_wp2_with fail
      refine kRt.mono ?_
      rintro e w11 ⟨rfl, hb11⟩
      have bD11 := bD10.below hb11 bD10.lt
      have bA11 := bA10.below hb11 bA10.lt
      have bF11 := bF10.below hb11 bF10.lt
      have hqa11 := hqa10.bel hb11
      have hqk11 := hqk10.bel hb11
      have hcs11 := hcs10.bel hb11
      have hms11 := hms10.bel hb11
      have hxx11 := hxx10.bel hb11
      have hpa11 := hpa10.bel hb11
      have hB11 : Below N w w11 := hB10.trans (hb11.mono hz10)
      have hz11 : N ≤ w11.heap.size := by have := hb11.size; omega
      clear kRt g0 g1 g2 g3 g4 bD10 bA10 bF10 hqa10 hqk10 hcs10 hms10 hxx10 hpa10 hB10 hz10 hb11
      cases rb with
      | false =>
        clear bD11 bA11 bF11 hqa11 hqk11 hcs11 hms11 hxx11 hpa11
        go_wp2_with fail
        refine (known_calls _).mono ?_
        rintro e w9 ⟨rfl, hb9⟩
        go_wp2
        go_ret
        exact ⟨rfl, hB11.trans (hb9.mono hz11)⟩
      | true =>
        have kW := RightWorld_calls cs ms bs (.slice p1 p2 p3) (.slice q1 q2 q3) w11 hcs11 hms11 HW20.out.1 HW20.out.2.1 HW20.out.2.2.1 HW20.out.2.2.2
        obtain ⟨wb, hwb⟩ : ∃ wb, (cs.all (rightB bs) && ms.all (rightB bs)) = wb := ⟨_, rfl⟩
        rw [hwb] at kW
        have g0 := bA11.cell 0
        have g1 := bA11.cell 1
        have g2 := bA11.cell 2
        clear hwb
        go_wp2_with fail
        refine kW.mono ?_
        rintro e w12 ⟨rfl, hb12⟩
        have bD12 := bD11.below hb12 bD11.lt
        have bA12 := bA11.below hb12 bA11.lt
        have bF12 := bF11.below hb12 bF11.lt
        have hqa12 := hqa11.bel hb12
        have hqk12 := hqk11.bel hb12
        have hcs12 := hcs11.bel hb12
        have hms12 := hms11.bel hb12
        have hxx12 := hxx11.bel hb12
        have hpa12 := hpa11.bel hb12
        have hB12 : Below N w w12 := hB11.trans (hb12.mono hz11)
        have hz12 : N ≤ w12.heap.size := by have := hb12.size; omega
        clear kW g0 g1 g2 bD11 bA11 bF11 hqa11 hqk11 hcs11 hms11 hxx11 hpa11 hB11 hz11 hb12
        cases wb with
        | false =>
          clear bD12 bA12 bF12 hqa12 hqk12 hcs12 hms12 hxx12 hpa12
          go_wp2_with fail
          refine (known_calls _).mono ?_
          rintro e w9 ⟨rfl, hb9⟩
          go_wp2
          go_ret
          exact ⟨rfl, hB12.trans (hb9.mono hz12)⟩
        | true =>
          have hdp : q.depth ≤ 60 := by have h9 := hrb; unfold Rw.right at h9; simp at h9; exact h9.2
          have kI := InferD_calls cs ms ctx q bs (.slice p1 p2 p3) (.slice q1 q2 q3) (.slice t1 t2 t3) (.slice d1 d2 d3) (.slice e1 e2 e3) w12 hcs12 hms12 hxx12 hqa12 hqk12 (by have := HZ.out.1; omega) (by have := HZ.out.2.1; omega) (fun u hu => by have := HZ.out.2.2.2 u hu; omega) HQ.out.1 HQ.out.2.1 (by have := HQ.out.2.2.2; have := q.size_le_total; omega) (by have := HZ.out.2.2.1; omega)
          have g0 := bA12.cell 0
          have g1 := bA12.cell 1
          have g2 := bA12.cell 2
          have g3 := bD12.cell 0
          have g4 := bD12.cell 1
          have g5 := bD12.cell 2
          have g6 := bD12.cell 3
          have g7 := bD12.cell 4
          have hR9 := HTY.out p HIS.out hrb
          clear hdp hqa12 hqk12 hcs12 hms12 hxx12
          rcases hR9 with hR9 | hR9
          · skip
            have hRe : q.infer bs cs ms ctx = (0, p) := hR9
            rw [hRe] at kI
            go_upto_region 11 with fail
            go_wp2_with fail
            refine kI.mono ?_
            unfold InfTold
            rintro e w13 ⟨sa9, sn9, sc9, rfl, hS, hb13⟩
            obtain ⟨G, hG⟩ : ∃ G, w13.heap.size = G := ⟨_, rfl⟩
            obtain ⟨W14, hW14⟩ : ∃ W14, w13.alloc (.cells #[.slice sa9 sn9 sc9, .int .i64 (p).base] 32) = W14 := ⟨_, rfl⟩
            have hb14 : Below w13.heap.size w13 W14 := by rw [← hW14]; exact (Below.refl _ _).alloc (Nat.le_refl _) _
            have hb1314 : Below w12.heap.size w12 W14 := hb13.trans (hb14.mono hb13.size)
            have bG14 : Blk W14 G 32 #[.slice sa9 sn9 sc9, .int .i64 (p).base] := by rw [← hW14]; exact Blk.new' w13 G 32 _ hG
            have bF14 := bF12.below hb1314 bF12.lt
            have hpa14 := hpa12.bel hb1314
            have hS14 : Holds W14 okT (p).args (.slice sa9 sn9 sc9) := hS.t.bel hb14
            have hB14 : Below N w W14 := hB12.trans (hb1314.mono hz12)
            have hz14 : N ≤ W14.heap.size := by have := hb1314.size; omega
            have HW14 : Hid _ := hW14
            clear hW14 kI hS bD12 bA12 bF12 hpa12 hB12 hz12 hb13 hb14 hb1314 g0 g1 g2 g3 g4 g5 g6 g7
            go_upto_region 12 with fail
            rw [HW14.out]
            clear HW14 hG
            go_wp2_with fail
            refine (known_calls _).mono ?_
            rintro e w15 ⟨rfl, hb15⟩
            have bG15 := bG14.below hb15 bG14.lt
            have bF15 := bF14.below hb15 bF14.lt
            have hpa15 := hpa14.bel hb15
            have hS15 := hS14.bel hb15
            have hB15 : Below N w w15 := hB14.trans (hb15.mono hz14)
            have hz15 : N ≤ w15.heap.size := by have := hb15.size; omega
            clear bG14 bF14 hpa14 hS14 hB14 hz14 hb15
            have kE := Equal_calls p HPZ.out p okT (.slice pa pn pc) (.slice sa9 sn9 sc9) w15 hpa15 hS15
            rw [Ty.same_self] at kE
            have g0 := bF15.cell 0
            have g1 := bF15.cell 1
            have g2 := bG15.cell 0
            have g3 := bG15.cell 1
            go_wp2_with fail
            refine kE.mono ?_
            rintro e w16 ⟨rfl, hb16⟩
            go_wp2
            go_ret
            exact ⟨rfl, hB15.trans (hb16.mono hz15)⟩
          · skip
            have hRe : q.infer bs cs ms ctx = (2, zT) := hR9
            rw [hRe] at kI
            go_upto_region 11 with fail
            go_wp2_with fail
            refine kI.mono ?_
            unfold InfTold
            rintro e w13 ⟨sa9, sn9, sc9, rfl, hS, hb13⟩
            obtain ⟨G, hG⟩ : ∃ G, w13.heap.size = G := ⟨_, rfl⟩
            obtain ⟨W14, hW14⟩ : ∃ W14, w13.alloc (.cells #[.slice sa9 sn9 sc9, .int .i64 (zT).base] 32) = W14 := ⟨_, rfl⟩
            have hb14 : Below w13.heap.size w13 W14 := by rw [← hW14]; exact (Below.refl _ _).alloc (Nat.le_refl _) _
            have hb1314 : Below w12.heap.size w12 W14 := hb13.trans (hb14.mono hb13.size)
            have bG14 : Blk W14 G 32 #[.slice sa9 sn9 sc9, .int .i64 (zT).base] := by rw [← hW14]; exact Blk.new' w13 G 32 _ hG
            have bF14 := bF12.below hb1314 bF12.lt
            have hpa14 := hpa12.bel hb1314
            have hS14 : Holds W14 okT (zT).args (.slice sa9 sn9 sc9) := hS.t.bel hb14
            have hB14 : Below N w W14 := hB12.trans (hb1314.mono hz12)
            have hz14 : N ≤ W14.heap.size := by have := hb1314.size; omega
            have HW14 : Hid _ := hW14
            clear hW14 kI hS bD12 bA12 bF12 hpa12 hB12 hz12 hb13 hb14 hb1314 g0 g1 g2 g3 g4 g5 g6 g7
            go_upto_region 12 with fail
            rw [HW14.out]
            clear HW14 hG
            go_wp2_with fail
            refine (known_calls _).mono ?_
            rintro e w15 ⟨rfl, hb15⟩
            have bG15 := bG14.below hb15 bG14.lt
            have bF15 := bF14.below hb15 bF14.lt
            have hpa15 := hpa14.bel hb15
            have hS15 := hS14.bel hb15
            have hB15 : Below N w w15 := hB14.trans (hb15.mono hz14)
            have hz15 : N ≤ w15.heap.size := by have := hb15.size; omega
            clear bG14 bF14 hpa14 hS14 hB14 hz14 hb15
            clear bG15 bF15 hpa15 hS15
            go_wp2
            go_ret
            exact ⟨rfl, hB15⟩
    · have z1 : (ce == 0) = false := by simp [hc0]
      have z2 : (ce != 0) = true := by simp [hc0]
      clear bD10 bA10 bF10 hqa10 hqk10 hcs10 hms10 hxx10 hpa10 hce
      go_wp2_with fail
      refine (known_calls _).mono ?_
      rintro e w9 ⟨rfl, hb9⟩
      go_wp2
      go_ret
      exact ⟨rfl, hB10.trans (hb9.mono hz10)⟩

end Go.Proofs.Ytckagmagjogmnaa
