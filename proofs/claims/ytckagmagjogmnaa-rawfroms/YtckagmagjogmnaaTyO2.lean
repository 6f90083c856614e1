/-
  TyO2: several texts in one file.
-/
import Derived.Test.YtckagmagjogmnaaHdTy
import Derived.Test.YtckagmagjogmnaaKnownR
import Derived.Test.YtckagmagjogmnaaHeadC
import Derived.Test.YtckagmagjogmnaaEqK
import Derived.Test.YtckagmagjogmnaaWld
import Derived.Test.YtckagmagjogmnaaToT
import Derived.Deep.RegionHeld3
/-
  The contracts of term.HeadType, and of the law's World.
-/
namespace Go.Proofs.Ytckagmagjogmnaa
open Go Go.RowKit Go.Sort

/-- What HeadType and TypeOf tell: a type that lies in the world behind, or that there is none. -/
def Told (o : Option Ty) (w' : World) (e : Ending) : Prop :=
  (o = none ∧ e = .returned (.tuple #[tv (.slice none 0 0) 0, .int .i64 10])) ∨ ∃ h a n c, o = some h ∧ Holds w' okT h.args (.slice a n c) ∧ e = .returned (.tuple #[tv (.slice a n c) h.base, .int .i64 0])

end Go.Proofs.Ytckagmagjogmnaa

/-
  The contract of term.TypeOf.
-/
namespace Go.Proofs.Ytckagmagjogmnaa
open Go Go.RowKit Go.Sort

set_option maxRecDepth 100000 in
set_option maxHeartbeats 1600000 in
theorem TypeOf_calls (cs ms ctx : List Ty) (t : Tm) (bs : Int) (cv mv xv sb sr : Value) (w : World) (hc : Holds w okT cs cv) (hm : Holds w okT ms mv) (hx : Holds w okT ctx xv) (hb : Holds w okT t.binds sb) (hr : HoldsT w okT t.args sr) (hlx : ctx.length + t.binds.length ≤ 1000000) (hi : t.idx ≤ 9223372036854775807) (sb' : sizeL t.binds ≤ 1000000) :
    Calls Try.prog 36 #[wov bs cv mv, xv, tmv sb t.kind t.idx sr] w fun e w' => Told (t.typeOf cs ms ctx) w' e ∧ Below w.heap.size w w' := by
  obtain ⟨c1, c2, rfl, _⟩ := hc.shape
  obtain ⟨m1, m2, rfl, _⟩ := hm.shape
  obtain ⟨a1, a2, rfl, _⟩ := hx.shape
  obtain ⟨x1, x2, rfl, _⟩ := hb.shape
  obtain ⟨x3, x4, rfl, _⟩ := hr.shape
  obtain ⟨N, hN⟩ : ∃ N, w.heap.size = N := ⟨_, rfl⟩
  rw [hN]
  have k53 := fun cur (h : Below N w cur) G (hG : Blk cur G 30 #[.slice a1 ctx.length a2, .slice x1 t.binds.length x2]) => Concat_calls okT [(.slice a1 ctx.length a2, ctx), (.slice x1 t.binds.length x2, t.binds)] G cur (fun i p hp => by
    match i, hp with
    | 0, hp => cases hp; exact ⟨hG.cell 0, hx.bel (hN ▸ h)⟩
    | 1, hp => cases hp; exact ⟨hG.cell 1, hb.bel (hN ▸ h)⟩
    | i + 2, hp => simp at hp) (by simp) (by simp [flat]; omega)
  have k35 := fun cur (h : Below N w cur) v (hv : Holds cur okT (ctx ++ t.binds) v) => find_head bs t.kind t.idx okT cs ms (ctx ++ t.binds) _ _ v cur (hc.bel (hN ▸ h)) (hm.bel (hN ▸ h)) hv (by rw [List.length_append]; exact hlx) hi
  have HT : Hid (t.typeOf cs ms ctx = (pickA cs ms (ctx ++ t.binds) t.kind t.idx).map fun h => .mk t.binds h.base) := rfl
  obtain ⟨ro, hro⟩ : ∃ o, t.typeOf cs ms ctx = o := ⟨_, rfl⟩
  rw [hro] at HT ⊢
  obtain ⟨o, ho⟩ : ∃ o, pickA cs ms (ctx ++ t.binds) t.kind t.idx = o := ⟨_, rfl⟩
  rw [ho] at HT
  simp only [ho] at k35
  clear hm hc hx hr hro ho
  generalize cs.length = cn at *
  generalize ms.length = mn at *
  generalize ctx.length = xn at *
  obtain ⟨bn, hbn⟩ : ∃ n, t.binds.length = n := ⟨_, rfl⟩
  rw [hbn] at k53 hb hlx ⊢
  generalize t.args.length = an at *
  obtain ⟨W0, hW0⟩ : ∃ W0, ((w.alloc (.cells #[.int .i64 bs, .slice c1 cn c2, .slice m1 mn m2] 57)).alloc (.cells #[.slice x1 bn x2, .int .i64 t.kind, .int .i64 t.idx, .slice x3 an x4] 76)).alloc (.cells #[.slice none 0 0, .int .i64 0] 32) = W0 := ⟨_, rfl⟩
  have b0 : Blk W0 N 57 #[.int .i64 bs, .slice c1 cn c2, .slice m1 mn m2] := by rw [← hW0]; exact ((Blk.new' w N 57 _ hN).alloc _).alloc _
  have b1 : Blk W0 (N + 1) 76 #[.slice x1 bn x2, .int .i64 t.kind, .int .i64 t.idx, .slice x3 an x4] := by rw [← hW0]; exact (Blk.new' _ (N + 1) 76 _ (by simp [hN])).alloc _
  have b2 : Blk W0 (N + 1 + 1) 32 #[.slice none 0 0, .int .i64 0] := by rw [← hW0]; exact Blk.new' _ (N + 1 + 1) 32 _ (by simp [hN])
  have bl0 : Below N w W0 := by rw [← hW0]; exact (((Below.refl N w).alloc (by omega) _).alloc (by simp; omega) _).alloc (by simp; omega) _
  have HW : Hid _ := hW0
  have hl0 : N + 1 + 1 < W0.heap.size := b2.lt
  clear hW0
  go_enter Try.func36, Try.ntmps36
  go_upto_region 1 with fail
  rw [HW.out]
  clear HW
  go_cut [8, 9] (fun s8 s9 wx => ∃ (Y : Nat) (a' : Option Addr) (n' c' : Nat) (b' : Int) (o' : Bool), s8 = .pointer (some ⟨Y, 0, none⟩) ∧ s9 = .bool o' ∧ W0.heap.size ≤ Y ∧ Blk wx Y 32 #[.slice a' n' c', .int .i64 b'] ∧ ((o = none ∧ o' = false) ∨ ∃ h : Ty, o = some h ∧ b' = h.base ∧ o' = true) ∧ Below W0.heap.size W0 wx)
  case first =>
    have c0 := b0.cell 0
    have c3 := b0.cell 1
    have c4 := b0.cell 2
    have d0 := b1.cell 0
    have d1 := b1.cell 1
    have d2 := b1.cell 2
    have hK : ∀ v, Cur W0 v → v.cell? ⟨N, 0, none⟩ = some (.int .i64 bs) ∧ v.cell? ⟨N, 1, none⟩ = some (.slice c1 cn c2) ∧ v.cell? ⟨N, 2, none⟩ = some (.slice m1 mn m2) ∧ v.cell? ⟨N + 1, 0, none⟩ = some (.slice x1 bn x2) ∧ v.cell? ⟨N + 1, 1, none⟩ = some (.int .i64 t.kind) ∧ v.cell? ⟨N + 1, 2, none⟩ = some (.int .i64 t.idx) := fun v hv => ⟨hv.cell c0, hv.cell c3, hv.cell c4, hv.cell d0, hv.cell d1, hv.cell d2⟩
    have l53 : ∀ cur, Cur W0 cur → ∀ G, Blk cur G 30 #[.slice a1 xn a2, .slice x1 bn x2] → Calls Try.prog 60 #[.slice (some ⟨G, 0, none⟩) 2 2] cur fun e w' => ∃ va vn vc, e = .returned (.slice va vn vc) ∧ Holds w' okT (ctx ++ t.binds) (.slice va vn vc) ∧ Below cur.heap.size cur w' ∧ Cur W0 w' := fun cur hcur G hG =>
      (k53 cur (bl0.trans (hcur.mono (by omega))) G hG).mono fun e w' ⟨v, ps, h1, h2, h3, h4, h5⟩ => by
        obtain ⟨va, vc, rfl⟩ := row_shape h2
        have h6 := Mk.ofRow h2 (fun p hp => (h4 p hp).bel h5)
        rw [h3] at h6
        simp only [flat, List.append_nil] at h6
        exact ⟨va, _, vc, h1, h6.t, h5, hcur.then h5⟩
    have l35 : ∀ cur, Cur W0 cur → ∀ va vn vc, Holds cur okT (ctx ++ t.binds) (.slice va vn vc) → Calls Try.prog 59 #[wov bs (.slice c1 cn c2) (.slice m1 mn m2), .slice va vn vc, hv t.kind t.idx] cur fun e w' => ∃ a n c b o', e = .returned (.tuple #[tv (.slice a n c) b, .bool o']) ∧ ((o = none ∧ o' = false) ∨ ∃ h : Ty, o = some h ∧ b = h.base ∧ o' = true) ∧ Below cur.heap.size cur w' ∧ Cur W0 w' := fun cur hcur va vn vc hv =>
      (k35 cur (bl0.trans (hcur.mono (by omega))) _ hv).mono fun e w' ⟨hf, h3⟩ => by
        rcases hf with ⟨h1, h2⟩ | ⟨hh, a', n', c', h1, h2, h4⟩
        · exact ⟨none, 0, 0, 0, false, h2, .inl ⟨h1, rfl⟩, h3, hcur.then h3⟩
        · exact ⟨a', n', c', hh.base, true, h4, .inr ⟨hh, h1, rfl, rfl⟩, h3, hcur.then h3⟩
    have hZ : Blk (W0.alloc (.cells #[.slice none 0 0, .int .i64 0] 32)).drew W0.heap.size 32 #[.slice none 0 0, .int .i64 0] := Blk.new W0 32 _
    have hZ1 : Blk ((W0.alloc (.cells #[.slice a1 xn a2, .slice x1 bn x2] 30)).alloc (.cells #[.slice none 0 0, .int .i64 0] 32)).drew (W0.heap.size + 1) 32 #[.slice none 0 0, .int .i64 0] := Blk.new' (W0.alloc (.cells #[.slice a1 xn a2, .slice x1 bn x2] 30)) _ 32 _ (by simp)
    have hZ2 : Blk ((W0.alloc (.cells #[.slice none 0 0, .int .i64 0] 32)).alloc (.cells #[.slice a1 xn a2, .slice x1 bn x2] 30)).drew W0.heap.size 32 #[.slice none 0 0, .int .i64 0] := (Blk.new W0 32 _).alloc _
    have hzz : W0.heap.size ≤ W0.heap.size := Nat.le_refl _
    have hzy := hzz
    have hzw : W0.heap.size ≤ W0.heap.size + 1 := Nat.le_succ _
    have hcur := Cur.refl W0
    clear c0 c3 c4 d0 d1 d2 k53 k35 hb
    go_region_held3 (fun v => v.cell? ⟨N, 0, none⟩ = some (.int .i64 bs) ∧ v.cell? ⟨N, 1, none⟩ = some (.slice c1 cn c2) ∧ v.cell? ⟨N, 2, none⟩ = some (.slice m1 mn m2) ∧ v.cell? ⟨N + 1, 0, none⟩ = some (.slice x1 bn x2) ∧ v.cell? ⟨N + 1, 1, none⟩ = some (.int .i64 t.kind) ∧ v.cell? ⟨N + 1, 2, none⟩ = some (.int .i64 t.idx))
      (first | with_reducible exact hK _ (by first | with_reducible assumption | (with_reducible refine Cur.drew ?_; assumption) | (with_reducible refine Cur.alloc ?_ _; assumption) | (with_reducible refine Cur.drew (Cur.alloc ?_ _); assumption) | (with_reducible refine Cur.alloc (Cur.drew ?_) _; assumption) | (with_reducible refine Cur.alloc (Cur.alloc ?_ _) _; assumption) | (with_reducible refine Cur.alloc (Cur.alloc (Cur.drew ?_) _) _; assumption) | (with_reducible refine Cur.alloc (Cur.drew (Cur.alloc ?_ _)) _; assumption) | (with_reducible refine Cur.drew (Cur.alloc (Cur.alloc ?_ _) _); assumption) | (with_reducible refine Cur.set (Cur.set ?_ hzz _ _) hzz _ _; assumption) | (with_reducible refine Cur.set (Cur.set ?_ hzw _ _) hzw _ _; assumption) | (with_reducible refine Cur.set (Cur.set ?_ hzy _ _) hzy _ _; assumption)))
      (first
        | (go_at_call 60; refine (l53 _ (by first | with_reducible assumption | (with_reducible refine Cur.drew ?_; assumption) | (with_reducible refine Cur.alloc ?_ _; assumption) | (with_reducible refine Cur.drew (Cur.alloc ?_ _); assumption) | (with_reducible refine Cur.alloc (Cur.drew ?_) _; assumption) | (with_reducible refine Cur.alloc (Cur.alloc ?_ _) _; assumption) | (with_reducible refine Cur.alloc (Cur.alloc (Cur.drew ?_) _) _; assumption) | (with_reducible refine Cur.alloc (Cur.drew (Cur.alloc ?_ _)) _; assumption) | (with_reducible refine Cur.drew (Cur.alloc (Cur.alloc ?_ _) _); assumption) | (with_reducible refine Cur.set (Cur.set ?_ hzz _ _) hzz _ _; assumption) | (with_reducible refine Cur.set (Cur.set ?_ hzw _ _) hzw _ _; assumption) | (with_reducible refine Cur.set (Cur.set ?_ hzy _ _) hzy _ _; assumption)) _ (by first | exact Blk.new _ _ _ | exact (Blk.new _ _ _).alloc _ | exact Blk.new' _ _ _ _ (by simp) | exact (Blk.new' _ _ _ _ (by simp)).alloc _)).mono ?_; rintro e y1 ⟨va, vn, vc, rfl, hv1, hb1, hc1⟩; have hzy : W0.heap.size ≤ y1.heap.size := Below.size hc1; have hY := Blk.new y1 32 #[.slice none 0 0, .int .i64 0]; try (first | (with_reducible have bA := hZ1.below hb1 hZ1.lt) | (with_reducible have bA := hZ2.below hb1 hZ2.lt)))
        | (go_at_call 59; refine (l35 _ (by first | with_reducible assumption | (with_reducible refine Cur.drew ?_; assumption) | (with_reducible refine Cur.alloc ?_ _; assumption) | (with_reducible refine Cur.drew (Cur.alloc ?_ _); assumption) | (with_reducible refine Cur.alloc (Cur.drew ?_) _; assumption) | (with_reducible refine Cur.alloc (Cur.alloc ?_ _) _; assumption) | (with_reducible refine Cur.alloc (Cur.alloc (Cur.drew ?_) _) _; assumption) | (with_reducible refine Cur.alloc (Cur.drew (Cur.alloc ?_ _)) _; assumption) | (with_reducible refine Cur.drew (Cur.alloc (Cur.alloc ?_ _) _); assumption) | (with_reducible refine Cur.set (Cur.set ?_ hzz _ _) hzz _ _; assumption) | (with_reducible refine Cur.set (Cur.set ?_ hzw _ _) hzw _ _; assumption) | (with_reducible refine Cur.set (Cur.set ?_ hzy _ _) hzy _ _; assumption)) _ _ _ (by first | with_reducible exact hv1 | with_reducible exact hv1.alloc _)).mono ?_; rintro e y2 ⟨fa, fn', fc, fb, fo, rfl, hfo, hb2, hc2⟩; try (first | (with_reducible have bR := bA.below hb2 bA.lt) | (with_reducible have bR := hY.below hb2 hY.lt)); try (have r0 := bR.cell 0; have r1 := bR.cell 1; have g0 := bR.frozen 0; have g1 := bR.frozen 1)))
    · have hs5 := Below.size hc2
      go_wp2_with fail
      go_meet
      exact ⟨y2.heap.size, fa, fn', fc, fb, fo, rfl, rfl, hs5, Blk.new y2 32 _, hfo, hc2.alloc _⟩
    · go_wp2_with fail
      go_meet
      exact ⟨y1.heap.size, fa, fn', fc, fb, fo, rfl, rfl, hzy, (bR.set 0 _).set 1 _, hfo, (hc2.set hzy 0 _).set hzy 1 _⟩
    · go_wp2_with fail
      go_meet
      exact ⟨W0.heap.size + 1, fa, fn', fc, fb, fo, rfl, rfl, hzw, (bR.set 0 _).set 1 _, hfo, (hc2.set hzw 0 _).set hzw 1 _⟩
    · go_wp2_with fail
      go_meet
      exact ⟨W0.heap.size, fa, fn', fc, fb, fo, rfl, rfl, hzz, (bR.set 0 _).set 1 _, hfo, (hc2.set hzz 0 _).set hzz 1 _⟩
  case rest =>
  obtain ⟨Y, ya, yn, yc, yb, yo, rfl, rfl, hYw, bY, hfo, hbc⟩ := hcut
  have hBc : Below N w wc := bl0.trans (hbc.mono (by omega))
  have f1 := b1.below hbc b1.lt
  have f2 := b2.below hbc b2.lt
  have d0 := f1.cell 0
  have d1 := bY.cell 1
  have r0 := f2.cell 0
  have r1 := f2.cell 1
  have g0 := f2.frozen 0
  have g1 := f2.frozen 1
  have hbc3 := hb.bel (hN ▸ hBc)
  clear k53 k35 b0 b1 b2 bl0
  rcases hfo with ⟨rfl, rfl⟩ | ⟨h, rfl, rfl, rfl⟩
  · have b9 := (f2.set 0 (.slice none 0 0)).set 1 (.int .i64 0)
    have hB9 : Below N w ((wc.setCell ⟨N + 1 + 1, 0, none⟩ (.slice none 0 0)).setCell ⟨N + 1 + 1, 1, none⟩ (.int .i64 0)) := bset (bset hBc (by omega) _) (by omega) _
    go_wp2
    generalize (wc.setCell ⟨N + 1 + 1, 0, none⟩ (.slice none 0 0)).setCell ⟨N + 1 + 1, 1, none⟩ (.int .i64 0) = W5 at *
    have d0 : W5.cell? ⟨N + 1 + 1, 0, none⟩ = some (.slice none 0 0) := b9.cell 0
    have d1 : W5.cell? ⟨N + 1 + 1, 1, none⟩ = some (.int .i64 0) := b9.cell 1
    exact bodyPost_ret (v := .tuple #[tv (.slice none 0 0) 0, .int .i64 10]) (by simp [results, Try.results36, go_sem, d0, d1]) rfl ⟨.inl ⟨HT.out, rfl⟩, hB9⟩
  · have k2 := kOf_calls h.base t.binds okT _ wc hbc3 sb'
    have hl2 : N + 1 + 1 < wc.heap.size := f2.lt
    clear r0 r1 g0 g1
    go_wp2_with (go_at_call 40; refine k2.mono ?_; rintro e w3 ⟨v3, rfl, hv3, hb3⟩; obtain ⟨va, vc, rfl, _⟩ := hv3.shape; rw [hbn] at hv3; have n2 := f2.below hb3 f2.lt; have r0 := n2.cell 0; have r1 := n2.cell 1; have g0 := n2.frozen 0; have g1 := n2.frozen 1)
    have hB3 : Below N w w3 := hBc.trans (hb3.mono (by omega))
    have b9 := (n2.set 0 (.slice va bn vc)).set 1 (.int .i64 h.base)
    have hB9 : Below N w ((w3.setCell ⟨N + 1 + 1, 0, none⟩ (.slice va bn vc)).setCell ⟨N + 1 + 1, 1, none⟩ (.int .i64 h.base)) := bset (bset hB3 (by omega) _) (by omega) _
    have hH9 : Holds ((w3.setCell ⟨N + 1 + 1, 0, none⟩ (.slice va bn vc)).setCell ⟨N + 1 + 1, 1, none⟩ (.int .i64 h.base)) okT t.binds (.slice va bn vc) := holds_set2 hv3 (fun b _ ho => ⟨by omega, trivial⟩) _ _ _ _
    clear r0 r1 g0 g1 d0 d1
    generalize (w3.setCell ⟨N + 1 + 1, 0, none⟩ (.slice va bn vc)).setCell ⟨N + 1 + 1, 1, none⟩ (.int .i64 h.base) = W5 at *
    have d0 : W5.cell? ⟨N + 1 + 1, 0, none⟩ = some (.slice va bn vc) := b9.cell 0
    have d1 : W5.cell? ⟨N + 1 + 1, 1, none⟩ = some (.int .i64 h.base) := b9.cell 1
    exact bodyPost_ret (v := .tuple #[tv (.slice va bn vc) h.base, .int .i64 0]) (by simp [results, Try.results36, go_sem, d0, d1]) rfl ⟨.inr ⟨.mk t.binds h.base, va, bn, vc, HT.out, hH9, rfl⟩, hB9⟩

end Go.Proofs.Ytckagmagjogmnaa

