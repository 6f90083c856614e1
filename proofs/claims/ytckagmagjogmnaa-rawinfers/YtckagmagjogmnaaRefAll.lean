/-
  RefAll: several texts in one file: RefInfer, RefAll.
-/
import Derived.Test.YtckagmagjogmnaaRefInf
import Derived.Test.YtckagmagjogmnaaRefApp
namespace Go.Proofs.Ytckagmagjogmnaa
open Go Go.RowKit

set_option maxRecDepth 100000 in
set_option maxHeartbeats 1600000 in
theorem refInfer_calls (r : Rw) (hI : r.shaped = true → RefInfAt r) (cs ms ctx : List Ty) (bs : Int) (cv mv xv sb sr : Value) (w : World) (hc : Holds w okT cs cv) (hm : Holds w okT ms mv) (hx : Holds w okT ctx xv) (hb : Holds w okT r.ty.args sb) (hr : HoldsR w okT r.kids sr)
    (hcs : sizeL cs ≤ 900000) (hms : sizeL ms ≤ 900000) (hxs : ∀ u ∈ ctx, u.size ≤ 1000) (hlen : ctx.length + r.size ≤ 900) :
    Calls Try.prog 27 #[wov bs cv mv, xv, rwv r.kind sb r.ty.base r.idx sr] w (RefTold okT (r.infer bs cs ms ctx) w) := by
  obtain ⟨c1, c2, rfl, _⟩ := hc.shape
  obtain ⟨m1, m2, rfl, _⟩ := hm.shape
  obtain ⟨a1, a2, rfl, _⟩ := hx.shape
  obtain ⟨x1, x2, rfl, _⟩ := hb.shape
  obtain ⟨x3, x4, rfl, _⟩ := hr.shape
  obtain ⟨N, hN⟩ : ∃ N, w.heap.size = N := ⟨_, rfl⟩
  have HN : Hid (w.heap.size = N) := hN
  obtain ⟨P, hP⟩ : ∃ P, r.infer bs cs ms ctx = P := ⟨_, rfl⟩
  rw [hP]
  have HP : Hid ((if r.right = true then r.inf bs cs ms ctx else ((1 : Int), zT)) = P) := hP
  have hshape : r.right = true → r.shaped = true := fun h => by unfold Rw.right at h; simp at h; exact h.1.1
  have hok : ∀ b, b < w.heap.size → okT b → b < N := fun b hb _ => hN ▸ hb
  have hc0 := hc.mono hok
  have hm0 := hm.mono hok
  have hx0 := hx.mono hok
  have hb0 := hb.mono hok
  have hr0 := hr.mono hok
  have k12 := fun cur (h : Below N w cur) => refRightR_calls r okT (.slice x1 r.ty.args.length x2) (.slice x3 r.kids.length x4) cur (hb.bel (hN ▸ h)) (hr.bel (hN ▸ h)) (by omega)
  have k55 := fun (hs : r.shaped = true) cur (h : Below N w cur) => hI hs cs ms ctx bs (.slice c1 cs.length c2) (.slice m1 ms.length m2) (.slice a1 ctx.length a2) (.slice x1 r.ty.args.length x2) (.slice x3 r.kids.length x4) (fun b => b < N) cur
    (hc0.bel (hN ▸ h)) (hm0.bel (hN ▸ h)) (hx0.bel (hN ▸ h)) (hb0.bel (hN ▸ h)) (hr0.bel (hN ▸ h)) hcs hms hxs hlen
  obtain ⟨q, hq⟩ : ∃ q, r.right = q := ⟨_, rfl⟩
  rw [hq] at HP hshape
  simp only [hq] at k12
  clear hc hm hx hb hr hc0 hm0 hx0 hb0 hr0 hq hP hI hcs hms hxs hlen hok
  generalize cs.length = cn at *
  generalize ms.length = mn at *
  generalize ctx.length = xn at *
  generalize r.ty.args.length = bn at *
  generalize r.kids.length = an at *
  obtain ⟨W0, hW0⟩ : ∃ W0, ((w.alloc (.cells #[.int .i64 bs, .slice c1 cn c2, .slice m1 mn m2] 47)).alloc (.cells #[.int .i64 r.kind, .slice x1 bn x2, .int .i64 r.ty.base, .int .i64 r.idx, .slice x3 an x4] 27)).alloc (.cells #[.slice none 0 0, .int .i64 0] 24) = W0 := ⟨_, rfl⟩
  have b0 : Blk W0 N 47 #[.int .i64 bs, .slice c1 cn c2, .slice m1 mn m2] := by rw [← hW0]; exact ((Blk.new' w N 47 _ hN).alloc _).alloc _
  have b1 : Blk W0 (N + 1) 27 #[.int .i64 r.kind, .slice x1 bn x2, .int .i64 r.ty.base, .int .i64 r.idx, .slice x3 an x4] := by rw [← hW0]; exact (Blk.new' _ (N + 1) 27 _ (by simp [hN])).alloc _
  have b2 : Blk W0 (N + 1 + 1) 24 #[.slice none 0 0, .int .i64 0] := by rw [← hW0]; exact Blk.new' _ (N + 1 + 1) 24 _ (by simp [hN])
  have bl0 : Below N w W0 := by rw [← hW0]; exact (((Below.refl N w).alloc (by omega) _).alloc (by simp; omega) _).alloc (by simp; omega) _
  have HW : Hid _ := hW0
  have d0 := b1.cell 0
  have d1 := b1.cell 1
  have d2 := b1.cell 2
  have d3 := b1.cell 3
  have d4 := b1.cell 4
  have k1 := k12 _ bl0
  have hl0 : N + 1 + 1 < W0.heap.size := b2.lt
  clear hW0 k12
  go_enter Try.func27, Try.ntmps27
  go_upto_region 1 with fail
  rw [HW.out]
  clear HW
  go_wp2_with fail
  refine k1.mono ?_
  clear k1
  rintro e w1 ⟨rfl, hb1⟩
  have hB1 : Below N w w1 := bl0.trans (hb1.mono (by omega))
  have e0 := b0.below hb1 b0.lt
  have e1 := b1.below hb1 b1.lt
  have e2 := b2.below hb1 b2.lt
  have hl1 : N + 1 + 1 < w1.heap.size := e2.lt
  clear b0 b1 b2 bl0 d0 d1 d2 d3 d4 hb1
  cases q with
  | false =>
    have HPF : Hid (P = (1, zT)) := by show _ = _; rw [← HP.out]; rfl
    clear k55 e0 e1
    have z00 := e2.cell 0
    have z11 := e2.cell 1
    have f0 := e2.frozen 0
    have f1 := e2.frozen 1
    have b5 := (e2.set 0 (.slice none 0 0)).set 1 (.int .i64 0)
    have o5 : Only [N + 1 + 1] w1 ((w1.setCell ⟨N + 1 + 1, 0, none⟩ (.slice none 0 0)).setCell ⟨N + 1 + 1, 1, none⟩ (.int .i64 0)) := ((Only.refl _ _).set (by simp) 0 _).set (by simp) 1 _
    go_wp2
    generalize (w1.setCell ⟨N + 1 + 1, 0, none⟩ (.slice none 0 0)).setCell ⟨N + 1 + 1, 1, none⟩ (.int .i64 0) = W5 at *
    have g0 : W5.cell? ⟨N + 1 + 1, 0, none⟩ = some (.slice none 0 0) := b5.cell 0
    have g1 : W5.cell? ⟨N + 1 + 1, 1, none⟩ = some (.int .i64 0) := b5.cell 1
    exact bodyPost_ret (v := .tuple #[tv (.slice none 0 0) 0, .int .i64 1]) (by simp [results, Try.results27, go_sem, g0, g1]) rfl (by unfold RefTold; rw [HPF.out]; exact ⟨none, 0, 0, rfl, Holds.nil _ _ _ _ (fun _ => rfl), HN.out ▸ (hB1.trans (o5.below (n := N) (by omega) (by simp; omega)))⟩)
  | true =>
  have HPT : Hid (r.inf bs cs ms ctx = P) := by show _ = _; rw [← HP.out]; rfl
  have k2 := k55 (hshape (by trivial)) w1 hB1
  simp only [HPT.out] at k2
  have c0 := e0.cell 0
  have c1' := e0.cell 1
  have c2' := e0.cell 2
  have d0 := e1.cell 0
  have d1 := e1.cell 1
  have d2 := e1.cell 2
  have d3 := e1.cell 3
  have d4 := e1.cell 4
  clear k55 e0 e1
  go_wp2_with fail
  refine k2.mono ?_
  clear k2
  rintro e w2 ⟨ra, rn, rc, rfl, hh, hb2⟩
  have k9 := e2.below hb2 e2.lt
  have hB2 : Below N w w2 := hB1.trans (hb2.mono (by omega))
  have hl2 : N + 1 + 1 < w2.heap.size := k9.lt
  clear e2 c0 c1' c2' d0 d1 d2 d3 d4
  have z00 := k9.cell 0
  have z11 := k9.cell 1
  have f0 := k9.frozen 0
  have f1 := k9.frozen 1
  have b5 := (k9.set 0 (.slice ra rn rc)).set 1 (.int .i64 P.2.base)
  have o5 : Only [N + 1 + 1] w2 ((w2.setCell ⟨N + 1 + 1, 0, none⟩ (.slice ra rn rc)).setCell ⟨N + 1 + 1, 1, none⟩ (.int .i64 P.2.base)) := ((Only.refl _ _).set (by simp) 0 _).set (by simp) 1 _
  go_wp2
  generalize (w2.setCell ⟨N + 1 + 1, 0, none⟩ (.slice ra rn rc)).setCell ⟨N + 1 + 1, 1, none⟩ (.int .i64 P.2.base) = W5 at *
  have g0 : W5.cell? ⟨N + 1 + 1, 0, none⟩ = some (.slice ra rn rc) := b5.cell 0
  have g1 : W5.cell? ⟨N + 1 + 1, 1, none⟩ = some (.int .i64 P.2.base) := b5.cell 1
  exact bodyPost_ret (v := .tuple #[tv (.slice ra rn rc) P.2.base, .int .i64 P.1]) (by simp [results, Try.results27, go_sem, g0, g1]) rfl (by unfold RefTold; exact ⟨ra, rn, rc, rfl, hh.keep fun b hb ho => ⟨o5.block b hb (by simp; rcases ho with h | h <;> omega), .inl trivial⟩, HN.out ▸ (hB2.trans (o5.below (n := N) (by omega) (by simp; omega)))⟩)

end Go.Proofs.Ytckagmagjogmnaa

namespace Go.Proofs.Ytckagmagjogmnaa
open Go Go.RowKit

theorem refInf_all (r : Rw) : r.shaped = true → r.rng → r.total ≤ 900000 → RefInfAt r := by
  induction r using Rw.ind with
  | h r ih =>
  intro hs hrg htot
  rw [r.shaped_eq, Bool.and_eq_true] at hs
  rw [r.rng_eq] at hrg
  rw [r.total_eq] at htot
  have hk : ∀ u ∈ r.kids, RefInfAt u := fun u hu => ih u hu ((shapedR_iff _).1 hs.2 u hu) (rngR_mem hrg.2.2 hu) (by have := rtotal_mem hu; omega)
  have hw := hs.1
  by_cases h3 : r.kind = 3
  · rw [h3] at hw
    have h1 : r.kids.length = 1 := by simpa [wellR] using hw
    obtain ⟨u, hu⟩ := List.length_eq_one_iff.1 h1
    exact refInf_lam r u h3 hu (by omega) (hk u (by rw [hu]; simp))
  · by_cases h4 : r.kind = 4
    · rw [h4] at hw
      have h1 : r.kids.length = 2 := by simpa [wellR] using hw
      obtain ⟨f, a, hu⟩ := two_of h1
      exact refInf_app r f a h4 hu (hk f (by rw [hu]; simp)) (hk a (by rw [hu]; simp))
    · have hlt : r.kind < 3 := by
        unfold wellR isHd at hw
        simp only [h3, h4, if_false] at hw
        simp at hw
        omega
      exact refInf_head r hlt hrg.2.1.2

theorem refInferAll_calls (r : Rw) (hrg : r.rng) (htot : r.total ≤ 900000) (cs ms ctx : List Ty) (bs : Int) (cv mv xv sb sr : Value) (w : World) (hc : Holds w okT cs cv) (hm : Holds w okT ms mv) (hx : Holds w okT ctx xv) (hb : Holds w okT r.ty.args sb) (hr : HoldsR w okT r.kids sr)
    (hcs : sizeL cs ≤ 900000) (hms : sizeL ms ≤ 900000) (hxs : ∀ u ∈ ctx, u.size ≤ 1000) (hlen : ctx.length + r.size ≤ 900) :
    Calls Try.prog 27 #[wov bs cv mv, xv, rwv r.kind sb r.ty.base r.idx sr] w (RefTold okT (r.infer bs cs ms ctx) w) :=
  refInfer_calls r (fun hs => refInf_all r hs hrg htot) cs ms ctx bs cv mv xv sb sr w hc hm hx hb hr hcs hms hxs hlen

end Go.Proofs.Ytckagmagjogmnaa

