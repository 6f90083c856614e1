/-
  The contract of the document's Var.
-/
import Derived.Test.YtheokboggjnenaaRefVE
namespace Go.Proofs.Ytheokboggjnenaa
open Go Go.RowKit Go.Sort

theorem totalT_etaL (l : List Ty) (h : ∀ t ∈ l, ∀ m, (etaY m t).total ≤ t.size * t.size) : totalT (etaL l) ≤ sizeL l * sizeL l := by
  induction l with
  | nil => rw [etaL]; decide
  | cons t r ih =>
    rw [etaL, totalT, sizeL]
    have h1 := h t (by simp) r.length
    have h2 := ih (fun u hu => h u (by simp [hu]))
    have h3 : (t.size + sizeL r) * (t.size + sizeL r) = t.size * t.size + t.size * sizeL r + (sizeL r * t.size + sizeL r * sizeL r) := by rw [Nat.add_mul, Nat.mul_add, Nat.mul_add]
    omega
theorem etaY_total (t : Ty) : ∀ m, (etaY m t).total ≤ t.size * t.size := by
  induction t using Ty.ind with
  | h t ih =>
    intro m
    have h1 := totalT_etaL t.args ih
    rw [etaY_eq, Tm.total_eq, etaK_binds, etaK_args, t.size_eq]
    have h3 : (1 + sizeL t.args) * (1 + sizeL t.args) = 1 + sizeL t.args + (sizeL t.args + sizeL t.args * sizeL t.args) := by rw [Nat.add_mul, Nat.one_mul, Nat.mul_add, Nat.mul_one]
    omega
theorem etaK_total (k i : Int) (l : List Ty) : (etaK k i l).total ≤ (1 + sizeL l) * (1 + sizeL l) := by
  have h1 := totalT_etaL l (fun t _ => etaY_total t)
  rw [Tm.total_eq, etaK_binds, etaK_args]
  have h3 : (1 + sizeL l) * (1 + sizeL l) = 1 + sizeL l + (sizeL l + sizeL l * sizeL l) := by rw [Nat.add_mul, Nat.one_mul, Nat.mul_add, Nat.mul_one]
  omega
theorem same_comm (t u : Tm) : t.same u = u.same t := by
  cases h : t.same u with
  | true => rw [(t.same_iff u).1 h, Tm.same_self]
  | false =>
    cases h2 : u.same t with
    | false => rfl
    | true => rw [(u.same_iff t).1 h2, Tm.same_self] at h; cases h

set_option maxRecDepth 100000 in
set_option maxHeartbeats 1600000 in
theorem RefVar_calls (t : Tm) (sb sr : Value) (w : World) (hb : Holds w okT t.binds sb) (hr : HoldsT w okT t.args sr) (htt : t.total ≤ 900) (hi : t.idx ≤ 9223372036854775807) (hi0 : -9223372036854775808 ≤ t.idx) :
    Calls Try.prog 50 #[tmv sb t.kind t.idx sr] w fun e w' => e = .returned (.tuple #[hv (varR t).1 (varR t).2.1, .bool (varR t).2.2]) ∧ Below w.heap.size w w' := by
  have htot := t.total_eq
  have hlb := sizeL_length t.binds
  have hvr : varR t = if (seen t.kind t.idx t.binds.length).2.2 && isEta t (seen t.kind t.idx t.binds.length).1 (seen t.kind t.idx t.binds.length).2.1 t.binds then seen t.kind t.idx t.binds.length else (0, 0, false) := rfl
  have hsz : sizeL t.binds ≤ 1000000 := by omega
  obtain ⟨⟨vk, vi, vo⟩, hve⟩ : ∃ s, varR t = s := ⟨_, rfl⟩
  rw [hve] at hvr ⊢
  obtain ⟨x1, x2, rfl, _⟩ := hb.shape
  obtain ⟨a, cap, rfl, _⟩ := hr.shape
  obtain ⟨N, hN⟩ : ∃ N, w.heap.size = N := ⟨_, rfl⟩
  rw [hN]
  obtain ⟨bn, hbn⟩ : ∃ bn, t.binds.length = bn := ⟨_, rfl⟩
  obtain ⟨an, han⟩ : ∃ an, t.args.length = an := ⟨_, rfl⟩
  have hbn2 : bn ≤ 1000000 := by omega
  have hut0 : ∀ sk si : Int, (etaK sk si t.binds).total ≤ 1000000 := fun sk si => by
    have h1 := etaK_total sk si t.binds
    have h2 : (1 + sizeL t.binds) * (1 + sizeL t.binds) ≤ 900 * 900 := Nat.mul_le_mul (by omega) (by omega)
    omega
  rw [hbn] at hb hvr ⊢
  rw [han] at hr ⊢
  obtain ⟨ka, hka⟩ : ∃ k, t.kind = k := ⟨_, rfl⟩
  obtain ⟨ia, hia⟩ : ∃ k, t.idx = k := ⟨_, rfl⟩
  have HKA : Hid (t.kind = ka) := hka
  have HIA : Hid (t.idx = ia) := hia
  rw [hka, hia] at hvr ⊢
  rw [hia] at hi hi0
  clear hka hia hve htt htot hlb han
  by_cases hk : ka = 0
  · subst hk
    by_cases hl : ia < bn
    · have hs : seen 0 ia bn = (0, 0, false) := by unfold seen; simp [hl]
      rw [hs] at hvr
      obtain ⟨rfl, rfl, rfl⟩ : vk = 0 ∧ vi = 0 ∧ vo = false := by simpa using hvr
      have z3 : decide (ia < (bn : Int)) = true := by simp; omega
      clear hvr hs hut0
      go_enter Try.func50, Try.ntmps50
      go_wp2
      have hB : Below N w (((w.alloc (.cells #[.slice x1 bn x2, .int .i64 0, .int .i64 ia, .slice a an cap] 27)).alloc (.cells #[.int .i64 0, .int .i64 0] 24)).alloc (.cells #[.int .i64 0, .int .i64 ia] 24)) := (((Below.refl N w).alloc (by omega) _).alloc (by simp; omega) _).alloc (by simp; omega) _
      have b9 : Blk (((w.alloc (.cells #[.slice x1 bn x2, .int .i64 0, .int .i64 ia, .slice a an cap] 27)).alloc (.cells #[.int .i64 0, .int .i64 0] 24)).alloc (.cells #[.int .i64 0, .int .i64 ia] 24)) (N + 1) 24 #[.int .i64 0, .int .i64 0] := (Blk.new' _ (N + 1) 24 _ (by simp [hN])).alloc _
      generalize ((w.alloc (.cells #[.slice x1 bn x2, .int .i64 0, .int .i64 ia, .slice a an cap] 27)).alloc (.cells #[.int .i64 0, .int .i64 0] 24)).alloc (.cells #[.int .i64 0, .int .i64 ia] 24) = W5 at *
      have g0 : W5.cell? ⟨N + 1, 0, none⟩ = some (.int .i64 0) := b9.cell 0
      have g1 : W5.cell? ⟨N + 1, 1, none⟩ = some (.int .i64 0) := b9.cell 1
      exact bodyPost_ret (v := .tuple #[hv 0 0, .bool false]) (by simp [results, Try.results50, go_sem, g0, g1]) rfl ⟨rfl, hB⟩
    · have hs : seen 0 ia bn = (0, ia - bn, true) := by unfold seen; simp [hl]
      rw [hs] at hvr
      have z3 : decide (ia < (bn : Int)) = false := by simp; omega
      obtain ⟨ka, hka⟩ : ∃ ka : Int, ka = 0 := ⟨_, rfl⟩
      obtain ⟨sk, hsk⟩ : ∃ sk : Int, sk = 0 := ⟨_, rfl⟩
      obtain ⟨si, hsi⟩ : ∃ si, ia - (bn : Int) = si := ⟨_, rfl⟩
      have hxe : insI 0 si bn = ia := by unfold insI; rw [if_pos rfl]; omega
      have hlow : (0 : Int) = 0 → -1000000000 ≤ si := fun _ => by omega
      have hhigh : (0 : Int) = 0 → si ≤ 9223372036854775807 - t.binds.length := fun _ => by omega
      have hek := etaK_eq 0 si t.binds
      rw [hbn, hxe] at hek
      have hut := hut0 0 si
      rw [hek] at hut
      obtain ⟨r, hre⟩ : ∃ r, isEta t 0 si t.binds = r := ⟨_, rfl⟩
      have hsm : (Tm.mk t.binds 0 ia (etaL t.binds)).same t = r := by rw [← hre, same_comm, ← hek]; rfl
      rw [hsi] at hvr
      simp only [hre] at hvr
      have HVR : Hid _ := hvr
      clear hvr hs hut0 hek hre hka hsk ka sk
      go_enter Try.func50, Try.ntmps50
      obtain ⟨W1, hW1⟩ : ∃ W1, ((w.alloc (.cells #[.slice x1 bn x2, .int .i64 0, .int .i64 ia, .slice a an cap] 27)).alloc (.cells #[.int .i64 0, .int .i64 0] 24)).alloc (.cells #[.int .i64 0, .int .i64 si] 24) = W1 := ⟨_, rfl⟩
      have b0 : Blk W1 N 27 #[.slice x1 bn x2, .int .i64 0, .int .i64 ia, .slice a an cap] := by rw [← hW1]; exact ((Blk.new' w N 27 _ hN).alloc _).alloc _
      have b1 : Blk W1 (N + 1) 24 #[.int .i64 0, .int .i64 0] := by rw [← hW1]; exact (Blk.new' _ (N + 1) 24 _ (by simp [hN])).alloc _
      have b2 : Blk W1 (N + 2) 24 #[.int .i64 0, .int .i64 si] := by rw [← hW1]; exact Blk.new' _ (N + 2) 24 _ (by simp [hN])
      have bl0 : Below N w W1 := by rw [← hW1]; exact (((Below.refl N w).alloc (by omega) _).alloc (by simp; omega) _).alloc (by simp; omega) _
      have hz1 : N + 2 < W1.heap.size := b2.lt
      have hcall := eta_calls t.binds okT (.slice x1 bn x2) W1 0 si 0 (hb.bel (hN ▸ bl0)) hsz hlow hhigh
      rw [hbn, hxe] at hcall
      have c0 := b0.cell 0
      have d0 := b2.cell 0
      have d1 := b2.cell 1
      have HW1 : Hid _ := hW1
      clear hW1
      go_upto_region 6 with fail
      rw [HW1.out]
      clear HW1
      go_wp2_with fail
      refine hcall.mono ?_
      rintro e w1 ⟨vb, vr, rfl, h1, h2, hb1⟩
      have hB1 : Below N w w1 := bl0.trans (hb1.mono (by omega))
      have k0 := b0.below hb1 b0.lt
      have k1 := b1.below hb1 b1.lt
      have k2 := b2.below hb1 b2.lt
      have hbt := hb.bel (hN ▸ hB1)
      have hrt := hr.bel (hN ▸ hB1)
      have l1 : N + 2 < w1.heap.size := k2.lt
      obtain ⟨z1, z2, rfl, _⟩ := h1.shape
      obtain ⟨z3, z4, rfl, _⟩ := h2.shape
      obtain ⟨en, hen⟩ : ∃ en, (etaL t.binds).length = en := ⟨_, rfl⟩
      rw [hbn] at h1 ⊢
      rw [hen] at h2 ⊢
      clear hcall b0 b1 b2 bl0 hb1 c0 d0 d1
      obtain ⟨Y, hY⟩ : ∃ Y, w1.heap.size = Y := ⟨_, rfl⟩
      obtain ⟨w2, hw2⟩ : ∃ w2, w1.alloc (.cells #[.slice z1 bn z2, .int .i64 0, .int .i64 ia, .slice z3 en z4] 27) = w2 := ⟨_, rfl⟩
      have hbb : Below w1.heap.size w1 w2 := by rw [← hw2]; exact (Below.refl _ _).alloc (Nat.le_refl _) _
      have bY : Blk w2 Y 27 #[.slice z1 bn z2, .int .i64 0, .int .i64 ia, .slice z3 en z4] := by rw [← hw2]; exact Blk.new' w1 Y 27 _ hY
      have m0 := k0.below hbb k0.lt
      have m1 := k1.below hbb k1.lt
      have m2 := k2.below hbb k2.lt
      have hB2 : Below N w w2 := hB1.trans (hbb.mono (by omega))
      have d0 := m2.cell 0
      have d1 := m2.cell 1
      have c1 := m0.cell 1
      have c2 := m0.cell 2
      have y0 := bY.cell 0
      have y1 := bY.cell 1
      have y2 := bY.cell 2
      have y3 := bY.cell 3
      have f1 := bY.frozen 1
      have f2 := bY.frozen 2
      have HW2 : Hid _ := hw2
      have g1 : Holds w1 (fun b => b < Y) t.binds (.slice z1 bn z2) := h1.mono fun b h _ => by omega
      have g2 : HoldsT w1 (fun b => b < Y) (etaL t.binds) (.slice z3 en z4) := h2.mono fun b h _ => by omega
      have g3 : Holds w1 (fun b => b < Y) t.binds (.slice x1 bn x2) := hbt.mono fun b h _ => by omega
      have g4 : HoldsT w1 (fun b => b < Y) t.args (.slice a an cap) := hrt.mono fun b h _ => by omega
      clear hw2 h1 h2 hbt hrt
      go_upto_region 7 with fail
      rw [HW2.out]
      clear HW2
      obtain ⟨e1, he1⟩ : ∃ e, decide (si > 1000) = e := ⟨_, rfl⟩
      have he2 : decide (1000 < si) = e1 := he1
      cases e1
      all_goals
        go_upto_if 37 with fail
        go_cut [] (fun wx => Blk wx Y 27 #[.slice z1 bn z2, .int .i64 0, .int .i64 ia, .slice z3 en z4] ∧ Below Y w1 wx)
        case first =>
          have q9 := ((bY.set 1 (.int .i64 0)).set 2 (.int .i64 ia))
          have hbY : Below Y w1 w2 := hY ▸ hbb
          have r9 : Below Y w1 ((w2.setCell ⟨Y, 1, none⟩ (.int .i64 0)).setCell ⟨Y, 2, none⟩ (.int .i64 ia)) := bset (bset hbY (Nat.le_refl _) _) (Nat.le_refl _) _
          go_wp2_with fail
          go_meet
          first | exact ⟨bY, hbY⟩ | exact ⟨q9, r9⟩
        case rest =>
        obtain ⟨bYc, hbc⟩ := hcut
        have n0 := k0.below hbc (by omega)
        have n1 := k1.below hbc (by omega)
        have n2 := k2.below hbc (by omega)
        have hB3 : Below N w wc := hB1.trans (hbc.mono (by omega))
        have j1 := g1.keep (ok' := okT) (w' := wc) fun b _ ho => ⟨hbc.block b ho, trivial⟩
        have j2 := g2.keep (ok' := okT) (w' := wc) fun b _ ho => ⟨hbc.block b ho, trivial⟩
        have j3 := g3.keep (ok' := okT) (w' := wc) fun b _ ho => ⟨hbc.block b ho, trivial⟩
        have j4 := g4.keep (ok' := okT) (w' := wc) fun b _ ho => ⟨hbc.block b ho, trivial⟩
        have hsame := SameTm_calls (.mk t.binds 0 ia (etaL t.binds)) t okT okT (.slice z1 bn z2) (.slice z3 en z4) (.slice x1 bn x2) (.slice a an cap) wc j1 j2 j3 j4 hut
        rw [hsm, HKA.out, HIA.out] at hsame
        have hsame2 : Calls Try.prog 25 #[tmv (.slice z1 bn z2) 0 ia (.slice z3 en z4), tmv (.slice x1 bn x2) 0 ia (.slice a an cap)] wc fun e w' => e = .returned (.bool r) ∧ Below wc.heap.size wc w' := hsame
        have i0 := bYc.cell 0
        have i1 := bYc.cell 1
        have i2 := bYc.cell 2
        have i3 := bYc.cell 3
        have o0 := n0.cell 0
        have o1 := n0.cell 1
        have o2 := n0.cell 2
        have o3 := n0.cell 3
        clear hsame bY m0 m1 m2 hB2 d0 d1 c1 c2 y0 y1 y2 y3 f1 f2 g1 g2 g3 g4 j1 j2 j3 j4 hbb k0 k1 k2 hB1 hbc
        go_wp2_with fail
        refine hsame2.mono ?_
        rintro e w3 ⟨rfl, hb3⟩
        have hwz : N + 2 < wc.heap.size := n2.lt
        have hB4 : Below N w w3 := hB3.trans (hb3.mono (by omega))
        have p1 := n1.below hb3 n1.lt
        have p2 := n2.below hb3 n2.lt
        clear hsame2 i0 i1 i2 i3 o0 o1 o2 o3 bYc n0 n1 n2 hb3 hB3
        have d0 := p2.cell 0
        have d1 := p2.cell 1
        have e0 := p1.cell 0
        have e1 := p1.cell 1
        have f0 := p1.frozen 0
        have f1 := p1.frozen 1
        cases r with
        | false =>
          obtain ⟨rfl, rfl, rfl⟩ : vk = 0 ∧ vi = 0 ∧ vo = false := by have := HVR.out; simpa using this
          have hB5 : Below N w ((w3.setCell ⟨N + 1, 0, none⟩ (.int .i64 0)).setCell ⟨N + 1, 1, none⟩ (.int .i64 0)) := bset (bset hB4 (by omega) _) (by omega) _
          have b9 := (p1.set 0 (.int .i64 0)).set 1 (.int .i64 0)
          go_wp2
          generalize (w3.setCell ⟨N + 1, 0, none⟩ (.int .i64 0)).setCell ⟨N + 1, 1, none⟩ (.int .i64 0) = W5 at *
          have g0 : W5.cell? ⟨N + 1, 0, none⟩ = some (.int .i64 0) := b9.cell 0
          have g1 : W5.cell? ⟨N + 1, 1, none⟩ = some (.int .i64 0) := b9.cell 1
          exact bodyPost_ret (v := .tuple #[hv 0 0, .bool false]) (by simp [results, Try.results50, go_sem, g0, g1]) rfl ⟨rfl, hB5⟩
        | true =>
          obtain ⟨rfl, rfl, rfl⟩ : vk = 0 ∧ vi = si ∧ vo = true := by have := HVR.out; simpa using this
          have hB5 : Below N w ((w3.setCell ⟨N + 1, 0, none⟩ (.int .i64 0)).setCell ⟨N + 1, 1, none⟩ (.int .i64 vi)) := bset (bset hB4 (by omega) _) (by omega) _
          have b9 := (p1.set 0 (.int .i64 0)).set 1 (.int .i64 vi)
          go_wp2
          generalize (w3.setCell ⟨N + 1, 0, none⟩ (.int .i64 0)).setCell ⟨N + 1, 1, none⟩ (.int .i64 vi) = W5 at *
          have g0 : W5.cell? ⟨N + 1, 0, none⟩ = some (.int .i64 0) := b9.cell 0
          have g1 : W5.cell? ⟨N + 1, 1, none⟩ = some (.int .i64 vi) := b9.cell 1
          exact bodyPost_ret (v := .tuple #[hv 0 vi, .bool true]) (by simp [results, Try.results50, go_sem, g0, g1]) rfl ⟨rfl, hB5⟩
  · have hs : seen ka ia bn = (ka, ia, true) := by unfold seen; simp [hk]
    rw [hs] at hvr
    have z1 : (ka == 0) = false := by simp [hk]
    have hxe : insI ka ia bn = ia := by unfold insI; rw [if_neg hk]
    have hlow : ka = 0 → -1000000000 ≤ ia := fun h => absurd h hk
    have hhigh : ka = 0 → ia ≤ 9223372036854775807 - t.binds.length := fun h => absurd h hk
    have hek := etaK_eq ka ia t.binds
    rw [hbn, hxe] at hek
    have hut := hut0 ka ia
    rw [hek] at hut
    obtain ⟨r, hre⟩ : ∃ r, isEta t ka ia t.binds = r := ⟨_, rfl⟩
    have hsm : (Tm.mk t.binds ka ia (etaL t.binds)).same t = r := by rw [← hre, same_comm, ← hek]; rfl
    simp only [hre] at hvr
    have HVR : Hid _ := hvr
    clear hvr hs hut0 hek hre hk
    go_enter Try.func50, Try.ntmps50
    obtain ⟨W1, hW1⟩ : ∃ W1, ((w.alloc (.cells #[.slice x1 bn x2, .int .i64 ka, .int .i64 ia, .slice a an cap] 27)).alloc (.cells #[.int .i64 0, .int .i64 0] 24)).alloc (.cells #[.int .i64 ka, .int .i64 ia] 24) = W1 := ⟨_, rfl⟩
    have b0 : Blk W1 N 27 #[.slice x1 bn x2, .int .i64 ka, .int .i64 ia, .slice a an cap] := by rw [← hW1]; exact ((Blk.new' w N 27 _ hN).alloc _).alloc _
    have b1 : Blk W1 (N + 1) 24 #[.int .i64 0, .int .i64 0] := by rw [← hW1]; exact (Blk.new' _ (N + 1) 24 _ (by simp [hN])).alloc _
    have b2 : Blk W1 (N + 2) 24 #[.int .i64 ka, .int .i64 ia] := by rw [← hW1]; exact Blk.new' _ (N + 2) 24 _ (by simp [hN])
    have bl0 : Below N w W1 := by rw [← hW1]; exact (((Below.refl N w).alloc (by omega) _).alloc (by simp; omega) _).alloc (by simp; omega) _
    have hz1 : N + 2 < W1.heap.size := b2.lt
    have hcall := eta_calls t.binds okT (.slice x1 bn x2) W1 ka ia 0 (hb.bel (hN ▸ bl0)) hsz hlow hhigh
    rw [hbn, hxe] at hcall
    have c0 := b0.cell 0
    have d0 := b2.cell 0
    have d1 := b2.cell 1
    have HW1 : Hid _ := hW1
    clear hW1
    go_upto_region 6 with fail
    rw [HW1.out]
    clear HW1
    go_wp2_with fail
    refine hcall.mono ?_
    rintro e w1 ⟨vb, vr, rfl, h1, h2, hb1⟩
    have hB1 : Below N w w1 := bl0.trans (hb1.mono (by omega))
    have k0 := b0.below hb1 b0.lt
    have k1 := b1.below hb1 b1.lt
    have k2 := b2.below hb1 b2.lt
    have hbt := hb.bel (hN ▸ hB1)
    have hrt := hr.bel (hN ▸ hB1)
    have l1 : N + 2 < w1.heap.size := k2.lt
    obtain ⟨z1, z2, rfl, _⟩ := h1.shape
    obtain ⟨z3, z4, rfl, _⟩ := h2.shape
    obtain ⟨en, hen⟩ : ∃ en, (etaL t.binds).length = en := ⟨_, rfl⟩
    rw [hbn] at h1 ⊢
    rw [hen] at h2 ⊢
    clear hcall b0 b1 b2 bl0 hb1 c0 d0 d1
    obtain ⟨Y, hY⟩ : ∃ Y, w1.heap.size = Y := ⟨_, rfl⟩
    obtain ⟨w2, hw2⟩ : ∃ w2, w1.alloc (.cells #[.slice z1 bn z2, .int .i64 ka, .int .i64 ia, .slice z3 en z4] 27) = w2 := ⟨_, rfl⟩
    have hbb : Below w1.heap.size w1 w2 := by rw [← hw2]; exact (Below.refl _ _).alloc (Nat.le_refl _) _
    have bY : Blk w2 Y 27 #[.slice z1 bn z2, .int .i64 ka, .int .i64 ia, .slice z3 en z4] := by rw [← hw2]; exact Blk.new' w1 Y 27 _ hY
    have m0 := k0.below hbb k0.lt
    have m1 := k1.below hbb k1.lt
    have m2 := k2.below hbb k2.lt
    have hB2 : Below N w w2 := hB1.trans (hbb.mono (by omega))
    have d0 := m2.cell 0
    have d1 := m2.cell 1
    have c1 := m0.cell 1
    have c2 := m0.cell 2
    have y0 := bY.cell 0
    have y1 := bY.cell 1
    have y2 := bY.cell 2
    have y3 := bY.cell 3
    have f1 := bY.frozen 1
    have f2 := bY.frozen 2
    have HW2 : Hid _ := hw2
    have g1 : Holds w1 (fun b => b < Y) t.binds (.slice z1 bn z2) := h1.mono fun b h _ => by omega
    have g2 : HoldsT w1 (fun b => b < Y) (etaL t.binds) (.slice z3 en z4) := h2.mono fun b h _ => by omega
    have g3 : Holds w1 (fun b => b < Y) t.binds (.slice x1 bn x2) := hbt.mono fun b h _ => by omega
    have g4 : HoldsT w1 (fun b => b < Y) t.args (.slice a an cap) := hrt.mono fun b h _ => by omega
    clear hw2 h1 h2 hbt hrt
    go_upto_region 7 with fail
    rw [HW2.out]
    clear HW2
    go_upto_if 37 with fail
    go_cut [] (fun wx => Blk wx Y 27 #[.slice z1 bn z2, .int .i64 ka, .int .i64 ia, .slice z3 en z4] ∧ Below Y w1 wx)
    case first =>
      have q9 := ((bY.set 1 (.int .i64 ka)).set 2 (.int .i64 ia))
      have hbY : Below Y w1 w2 := hY ▸ hbb
      have r9 : Below Y w1 ((w2.setCell ⟨Y, 1, none⟩ (.int .i64 ka)).setCell ⟨Y, 2, none⟩ (.int .i64 ia)) := bset (bset hbY (Nat.le_refl _) _) (Nat.le_refl _) _
      obtain ⟨e1, he1⟩ : ∃ e, decide (ia > 1000) = e := ⟨_, rfl⟩
      have he2 : decide (1000 < ia) = e1 := he1
      cases e1 <;> (go_wp2_with fail; go_meet; first | exact ⟨bY, hbY⟩ | exact ⟨q9, r9⟩)
    case rest =>
    obtain ⟨bYc, hbc⟩ := hcut
    have n0 := k0.below hbc (by omega)
    have n1 := k1.below hbc (by omega)
    have n2 := k2.below hbc (by omega)
    have hB3 : Below N w wc := hB1.trans (hbc.mono (by omega))
    have j1 := g1.keep (ok' := okT) (w' := wc) fun b _ ho => ⟨hbc.block b ho, trivial⟩
    have j2 := g2.keep (ok' := okT) (w' := wc) fun b _ ho => ⟨hbc.block b ho, trivial⟩
    have j3 := g3.keep (ok' := okT) (w' := wc) fun b _ ho => ⟨hbc.block b ho, trivial⟩
    have j4 := g4.keep (ok' := okT) (w' := wc) fun b _ ho => ⟨hbc.block b ho, trivial⟩
    have hsame := SameTm_calls (.mk t.binds ka ia (etaL t.binds)) t okT okT (.slice z1 bn z2) (.slice z3 en z4) (.slice x1 bn x2) (.slice a an cap) wc j1 j2 j3 j4 hut
    rw [hsm, HKA.out, HIA.out] at hsame
    have hsame2 : Calls Try.prog 25 #[tmv (.slice z1 bn z2) ka ia (.slice z3 en z4), tmv (.slice x1 bn x2) ka ia (.slice a an cap)] wc fun e w' => e = .returned (.bool r) ∧ Below wc.heap.size wc w' := hsame
    have i0 := bYc.cell 0
    have i1 := bYc.cell 1
    have i2 := bYc.cell 2
    have i3 := bYc.cell 3
    have o0 := n0.cell 0
    have o1 := n0.cell 1
    have o2 := n0.cell 2
    have o3 := n0.cell 3
    clear hsame bY m0 m1 m2 hB2 d0 d1 c1 c2 y0 y1 y2 y3 f1 f2 g1 g2 g3 g4 j1 j2 j3 j4 hbb k0 k1 k2 hB1 hbc
    go_wp2_with fail
    refine hsame2.mono ?_
    rintro e w3 ⟨rfl, hb3⟩
    have hwz : N + 2 < wc.heap.size := n2.lt
    have hB4 : Below N w w3 := hB3.trans (hb3.mono (by omega))
    have p1 := n1.below hb3 n1.lt
    have p2 := n2.below hb3 n2.lt
    clear hsame2 i0 i1 i2 i3 o0 o1 o2 o3 bYc n0 n1 n2 hb3 hB3
    have d0 := p2.cell 0
    have d1 := p2.cell 1
    have e0 := p1.cell 0
    have e1 := p1.cell 1
    have f0 := p1.frozen 0
    have f1 := p1.frozen 1
    cases r with
    | false =>
      obtain ⟨rfl, rfl, rfl⟩ : vk = 0 ∧ vi = 0 ∧ vo = false := by have := HVR.out; simpa using this
      have hB5 : Below N w ((w3.setCell ⟨N + 1, 0, none⟩ (.int .i64 0)).setCell ⟨N + 1, 1, none⟩ (.int .i64 0)) := bset (bset hB4 (by omega) _) (by omega) _
      have b9 := (p1.set 0 (.int .i64 0)).set 1 (.int .i64 0)
      go_wp2
      generalize (w3.setCell ⟨N + 1, 0, none⟩ (.int .i64 0)).setCell ⟨N + 1, 1, none⟩ (.int .i64 0) = W5 at *
      have g0 : W5.cell? ⟨N + 1, 0, none⟩ = some (.int .i64 0) := b9.cell 0
      have g1 : W5.cell? ⟨N + 1, 1, none⟩ = some (.int .i64 0) := b9.cell 1
      exact bodyPost_ret (v := .tuple #[hv 0 0, .bool false]) (by simp [results, Try.results50, go_sem, g0, g1]) rfl ⟨rfl, hB5⟩
    | true =>
      obtain ⟨rfl, rfl, rfl⟩ : vk = ka ∧ vi = ia ∧ vo = true := by have := HVR.out; simpa using this
      have hB5 : Below N w ((w3.setCell ⟨N + 1, 0, none⟩ (.int .i64 vk)).setCell ⟨N + 1, 1, none⟩ (.int .i64 vi)) := bset (bset hB4 (by omega) _) (by omega) _
      have b9 := (p1.set 0 (.int .i64 vk)).set 1 (.int .i64 vi)
      go_wp2
      generalize (w3.setCell ⟨N + 1, 0, none⟩ (.int .i64 vk)).setCell ⟨N + 1, 1, none⟩ (.int .i64 vi) = W5 at *
      have g0 : W5.cell? ⟨N + 1, 0, none⟩ = some (.int .i64 vk) := b9.cell 0
      have g1 : W5.cell? ⟨N + 1, 1, none⟩ = some (.int .i64 vi) := b9.cell 1
      exact bodyPost_ret (v := .tuple #[hv vk vi, .bool true]) (by simp [results, Try.results50, go_sem, g0, g1]) rfl ⟨rfl, hB5⟩

end Go.Proofs.Ytheokboggjnenaa
