/-
  InfE: several texts in one file: InfC, InfD, InfE.
-/
import Derived.Test.YtckagmagjogmnaaInfB
import Derived.Test.YtckagmagjogmnaaRemake
import Derived.Deep.RegionLaw
import Derived.StillTailTactics
namespace Go.Proofs.Ytckagmagjogmnaa
open Go Go.RowKit

theorem sizeL_le (l : List Ty) (n : Nat) (h : ∀ u ∈ l, u.size ≤ n) : sizeL l ≤ n * l.length := by
  induction l with
  | nil => simp [sizeL]
  | cons u l ih =>
    have h1 := h u (by simp)
    have h2 := ih fun v hv => h v (by simp [hv])
    simp only [sizeL, List.length_cons, Nat.mul_add, Nat.mul_one]
    omega
theorem two_of {ts : List Rw} (h : ts.length = 2) : ∃ f a, ts = [f, a] := by
  match ts, h with
  | [f, a], _ => exact ⟨f, a, rfl⟩
/-- lam's own word of a type and a raw term -/
def LamAt (cs ms : List Ty) (t : Ty) (r : Rw) : Prop := ∀ (N C : Nat) (ps : List (Value × Ty)) (bs : Int) (cv mv xv st sb sr : Value) (w : World),
    Holds w (fun b => b < N) cs cv → Holds w (fun b => b < N) ms mv → Holds w (fun b => b < N) t.args st → Holds w (fun b => b < N) r.ty.args sb → HoldsR w (fun b => b < N) r.kids sr → Stk w N C bs cv mv xv ps → (∀ p ∈ ps, p.2.size ≤ 1000) → ps.length + 1 + r.depth ≤ 900 →
    Calls Try.prog 92 #[.pointer (some ⟨C, 0, none⟩), tv st t.base, rwv r.kind sb r.ty.base r.idx sr] w (FindP (if rightB bs t = true then lamI t [r.inf bs cs ms (ps.map (·.2) ++ [t])] else (2, zT)) N C bs cv mv xv ps w)

set_option maxRecDepth 100000 in
set_option maxHeartbeats 3200000 in
theorem of_calls (cs ms : List Ty) (r : Rw) (hwf : wellR r.kind r.kids.length = true) (hcs : sizeL cs ≤ 1000000) (hms : sizeL ms ≤ 1000000) (hix : r.idx ≤ 9223372036854775807) (hI : ∀ u ∈ r.kids, FindAt 54 cs ms (fun ctx bs => u.inf bs cs ms ctx) u) (hL : ∀ u ∈ r.kids, LamAt cs ms r.ty u) : FindAt 74 cs ms (fun ctx bs => r.ofI bs cs ms ctx) r := by
  intro N C ps bs cv mv xv sb sr w hc hm hb hr hst hps hlen
  have hT := hst.lt
  have hG := hst.ge
  have hNC := hst.low
  have hrs := r.depth_eq
  obtain ⟨c1, c2, rfl, _⟩ := hc.shape
  obtain ⟨m1, m2, rfl, _⟩ := hm.shape
  obtain ⟨p1, p2, hpx⟩ := row_shape hst.row
  obtain ⟨pn, hpn⟩ : ∃ n, ps.length = n := ⟨_, rfl⟩
  rw [hpn] at hpx
  subst hpx
  obtain ⟨x1, x2, hx, _⟩ := hb.shape
  obtain ⟨n1, hn1⟩ : ∃ n, r.ty.args.length = n := ⟨_, rfl⟩
  rw [hn1] at hx
  subst hx
  obtain ⟨ts, hts⟩ : ∃ l, r.kids = l := ⟨_, rfl⟩
  rw [hts] at hwf hr hI hL hrs
  obtain ⟨x3, x4, hx', _⟩ := hr.shape
  obtain ⟨n2, hn2⟩ : ∃ n, ts.length = n := ⟨_, rfl⟩
  rw [hn2] at hwf hx'
  subst hx'
  obtain ⟨H, hH⟩ : ∃ H, w.heap.size = H := ⟨_, rfl⟩
  rw [hH] at hT
  obtain ⟨K, hK⟩ : ∃ K, r.kind = K := ⟨_, rfl⟩
  rw [hK] at hwf ⊢
  generalize cs.length = cn at *
  generalize ms.length = mn at *
  obtain ⟨W0, hW0⟩ : ∃ W0, (w.alloc (.cells #[.int .i64 K, .slice x1 n1 x2, .int .i64 r.ty.base, .int .i64 r.idx, .slice x3 n2 x4] 35)).alloc (.cells #[.slice none 0 0, .int .i64 0] 32) = W0 := ⟨_, rfl⟩
  have b0 : Blk W0 H 35 #[.int .i64 K, .slice x1 n1 x2, .int .i64 r.ty.base, .int .i64 r.idx, .slice x3 n2 x4] := by rw [← hW0]; exact (Blk.new' w H 35 _ hH).alloc _
  have b1 : Blk W0 (H + 1) 32 #[.slice none 0 0, .int .i64 0] := by rw [← hW0]; exact Blk.new' _ (H + 1) 32 _ (by simp [hH])
  have bl : Below H w W0 := by rw [← hW0]; exact ((Below.refl H w).alloc (by omega) _).alloc (by simp; omega) _
  have hz : W0.heap.size = H + 1 + 1 := by rw [← hW0]; simp [hH]
  have hbw : Below w.heap.size w W0 := hH ▸ bl
  have HCT : Hid (C ∈ turns C (.slice p1 pn p2)) := turns_mem.2 (.inl rfl)
  have hCH : C < H := hT C HCT.out
  have hc0 := hc.bel hbw
  have hm0 := hm.bel hbw
  have hb0 := hb.bel hbw
  have hr0 := hr.bel hbw
  have hst0 := hst.bel hbw
  have HO0 : Hid (Only (turns C (.slice p1 pn p2)) w W0) := Only.of_below' hbw
  have HH : Hid (w.heap.size = H) := hH
  have HW : Hid _ := hW0
  have HPS : Hid _ := hps
  obtain ⟨P, hP⟩ : ∃ P, r.ofI bs cs ms (ps.map (·.2)) = P := ⟨_, rfl⟩
  have HP : Hid (r.ofI bs cs ms (ps.map (·.2)) = P) := hP
  have hOF : r.ofI bs cs ms (ps.map (·.2)) = if K = 3 then (if rightB bs r.ty = true then lamI r.ty (infL bs cs ms (ps.map (·.2) ++ [r.ty]) ts) else (2, zT)) else if K = 4 then appI (infL bs cs ms (ps.map (·.2)) ts) else headI (pickA cs ms (ps.map (·.2)) K r.idx) := by unfold Rw.ofI; rw [hK, hts]
  show Calls _ _ _ _ (FindP (r.ofI bs cs ms (ps.map (·.2))) N C bs _ _ _ ps w)
  rw [hP]
  rw [hP] at hOF
  have hno : ∀ k, H ≤ k → k ∉ turns C (.slice p1 pn p2) := fun k hk h => by have := hT _ h; omega
  clear hW0 hc hm hb hr hst hps hP
  by_cases h3 : K = 3
  · subst h3
    have hl1 : n2 = 1 := by simpa [wellR] using hwf
    subst hl1
    obtain ⟨u, hu⟩ : ∃ u, ts = [u] := List.length_eq_one_iff.1 hn2
    subst hu
    have HPE : Hid ((if rightB bs r.ty = true then lamI r.ty [u.inf bs cs ms (ps.map (·.2) ++ [r.ty])] else (2, zT)) = P) := by show _ = _; rw [hOF, if_pos rfl]; rfl
    obtain ⟨a9, c9, e9, _, hat⟩ := hr0.shape
    cases e9
    obtain ⟨g, o, s1, r1, rfl, hgN, hg, i0, i1, i2, i3, i4, hs1, hsr1⟩ := hat 0 u rfl
    obtain ⟨sa, sc, rfl, _⟩ := hs1.shape
    obtain ⟨sd, se, rfl, _⟩ := hsr1.shape
    have husz : ps.length + 1 + u.depth ≤ 900 := by simp only [depthR] at hrs; omega
    have hLA := hL u (by simp)
    generalize u.ty.args.length = k1 at *
    generalize u.kids.length = k2 at *
    rw [show o + 0 * 5 = o by omega] at i0 i1 i2 i3 i4
    have kcall : ∀ cur, Only [] W0 cur → Calls Try.prog 92 #[.pointer (some ⟨C, 0, none⟩), tv (.slice x1 n1 x2) r.ty.base, rwv u.kind (.slice sa k1 sc) u.ty.base u.idx (.slice sd k2 se)] cur (FindP P N C bs (.slice c1 cn c2) (.slice m1 mn m2) (.slice p1 pn p2) ps cur) := fun cur hcur => by
      have hbb := hcur.below (Nat.le_refl _) (by simp)
      have h9 := hLA N C ps bs _ _ _ _ _ _ cur (hc0.bel hbb) (hm0.bel hbb) (hb0.bel hbb) (hs1.bel hbb) (hsr1.bel hbb) (hst0.bel hbb) HPS.out husz
      rwa [HPE.out] at h9
    clear hI hL hLA hat hOF hts hwf hrs
    have k0 := b0.cell 0
    have k1' := b0.cell 1
    have k2' := b0.cell 2
    have k3' := b0.cell 3
    have k4' := b0.cell 4
    have hgn : g ≠ H + 1 := by omega
    have hHn : H ≠ H + 1 := by omega
    have hK : ∀ (z : World), Only (turns C (.slice p1 pn p2)) W0 z → z.cell? ⟨H, 1, none⟩ = some (.slice x1 n1 x2) ∧ z.cell? ⟨H, 2, none⟩ = some (.int .i64 r.ty.base) ∧ z.cell? ⟨H, 4, none⟩ = some (.slice (some ⟨g, o, none⟩) 1 x4) ∧ z.cell? ⟨g, o, none⟩ = some (.int .i64 u.kind) ∧ z.cell? ⟨g, o + 1, none⟩ = some (.slice sa k1 sc) ∧ z.cell? ⟨g, o + 2, none⟩ = some (.int .i64 u.ty.base) ∧ z.cell? ⟨g, o + 3, none⟩ = some (.int .i64 u.idx) ∧ z.cell? ⟨g, o + 4, none⟩ = some (.slice sd k2 se) := fun z hz => ⟨(hz.cell (lt_of_cell k1') (hno H (Nat.le_refl _))).trans k1', (hz.cell (lt_of_cell k2') (hno H (Nat.le_refl _))).trans k2', (hz.cell (lt_of_cell k4') (hno H (Nat.le_refl _))).trans k4', (hz.cell (lt_of_cell i0) (fun h => by have := hG g h; omega)).trans i0, (hz.cell (lt_of_cell i1) (fun h => by have := hG g h; omega)).trans i1, (hz.cell (lt_of_cell i2) (fun h => by have := hG g h; omega)).trans i2, (hz.cell (lt_of_cell i3) (fun h => by have := hG g h; omega)).trans i3, (hz.cell (lt_of_cell i4) (fun h => by have := hG g h; omega)).trans i4⟩
    have hK5 : ∀ (z : World) (v0 v1 : Value), (z.cell? ⟨H, 1, none⟩ = some (.slice x1 n1 x2) ∧ z.cell? ⟨H, 2, none⟩ = some (.int .i64 r.ty.base) ∧ z.cell? ⟨H, 4, none⟩ = some (.slice (some ⟨g, o, none⟩) 1 x4) ∧ z.cell? ⟨g, o, none⟩ = some (.int .i64 u.kind) ∧ z.cell? ⟨g, o + 1, none⟩ = some (.slice sa k1 sc) ∧ z.cell? ⟨g, o + 2, none⟩ = some (.int .i64 u.ty.base) ∧ z.cell? ⟨g, o + 3, none⟩ = some (.int .i64 u.idx) ∧ z.cell? ⟨g, o + 4, none⟩ = some (.slice sd k2 se)) → (fun (z : World) => z.cell? ⟨H, 1, none⟩ = some (.slice x1 n1 x2) ∧ z.cell? ⟨H, 2, none⟩ = some (.int .i64 r.ty.base) ∧ z.cell? ⟨H, 4, none⟩ = some (.slice (some ⟨g, o, none⟩) 1 x4) ∧ z.cell? ⟨g, o, none⟩ = some (.int .i64 u.kind) ∧ z.cell? ⟨g, o + 1, none⟩ = some (.slice sa k1 sc) ∧ z.cell? ⟨g, o + 2, none⟩ = some (.int .i64 u.ty.base) ∧ z.cell? ⟨g, o + 3, none⟩ = some (.int .i64 u.idx) ∧ z.cell? ⟨g, o + 4, none⟩ = some (.slice sd k2 se)) ((z.setCell ⟨H + 1, 0, none⟩ v0).setCell ⟨H + 1, 1, none⟩ v1) := fun z v0 v1 ⟨i90, i91, i92, i93, i94, i95, i96, i97⟩ => ⟨by rw [cell_other hHn, cell_other hHn, i90], by rw [cell_other hHn, cell_other hHn, i91], by rw [cell_other hHn, cell_other hHn, i92], by rw [cell_other hgn, cell_other hgn, i93], by rw [cell_other hgn, cell_other hgn, i94], by rw [cell_other hgn, cell_other hgn, i95], by rw [cell_other hgn, cell_other hgn, i96], by rw [cell_other hgn, cell_other hgn, i97]⟩
    go_enter Try.func74, Try.ntmps74
    go_upto_region 1 with fail
    rw [HW.out]
    clear HW
    have hcur := Only.refl [] W0
    have hcur2 := Only.refl (turns C (.slice p1 pn p2)) W0
    go_upto_region 3 with fail
    clear hH
    go_region_held3 (fun (z : World) => z.cell? ⟨H, 1, none⟩ = some (.slice x1 n1 x2) ∧ z.cell? ⟨H, 2, none⟩ = some (.int .i64 r.ty.base) ∧ z.cell? ⟨H, 4, none⟩ = some (.slice (some ⟨g, o, none⟩) 1 x4) ∧ z.cell? ⟨g, o, none⟩ = some (.int .i64 u.kind) ∧ z.cell? ⟨g, o + 1, none⟩ = some (.slice sa k1 sc) ∧ z.cell? ⟨g, o + 2, none⟩ = some (.int .i64 u.ty.base) ∧ z.cell? ⟨g, o + 3, none⟩ = some (.int .i64 u.idx) ∧ z.cell? ⟨g, o + 4, none⟩ = some (.slice sd k2 se))
      (first | with_reducible exact hK _ (by first | with_reducible assumption | (with_reducible refine Only.drew ?_; assumption)) | with_reducible exact hK5 _ _ _ (hK _ (by first | with_reducible assumption | (with_reducible refine Only.drew ?_; assumption))))
      ((go_at_call 92; refine (kcall _ (by first | with_reducible assumption | (with_reducible refine Only.drew ?_; assumption))).mono ?_; unfold FindP; rintro e y9 ⟨a9, m9, e9, rfl, hO9, hyes, hno9⟩; have hOy : Only (turns C (.slice p1 pn p2)) W0 y9 := (Only.refl _ W0).drew.trans hO9; have k9 := b1.only hOy (hno _ (by omega)); have r0 := k9.cell 0; have r1 := k9.cell 1; have f0 := k9.frozen 0; have f1 := k9.frozen 1))
    all_goals
      have HY : Hid _ := hyes
      clear hyes
      have e0 := k9.cell 0
      have e1 := k9.cell 1
      have f0 := k9.frozen 0
      have f1 := k9.frozen 1
      have b5 := (k9.set 0 (.slice a9 m9 e9)).set 1 (.int .i64 P.2.base)
      have o5 : Only [H + 1] y9 ((y9.setCell ⟨H + 1, 0, none⟩ (.slice a9 m9 e9)).setCell ⟨H + 1, 1, none⟩ (.int .i64 P.2.base)) := ((Only.refl _ _).set (by simp) 0 _).set (by simp) 1 _
      go_wp2
      generalize (y9.setCell ⟨H + 1, 0, none⟩ (.slice a9 m9 e9)).setCell ⟨H + 1, 1, none⟩ (.int .i64 P.2.base) = W5 at *
      have g0 : W5.cell? ⟨H + 1, 0, none⟩ = some (.slice a9 m9 e9) := b5.cell 0
      have g1 : W5.cell? ⟨H + 1, 1, none⟩ = some (.int .i64 P.2.base) := b5.cell 1
      exact bodyPost_ret (v := .tuple #[tv (.slice a9 m9 e9) P.2.base, .int .i64 P.1]) (by simp [results, Try.results74, go_sem, g0, g1]) rfl (by unfold FindP; exact ⟨a9, m9, e9, rfl, (HO0.out.trans hOy).then o5 (fun x hx hlt => by rw [List.mem_singleton.1 hx, HH.out] at hlt; omega), fun h => (by obtain ⟨xv1, h1, h2, h3⟩ := HY.out h; exact ⟨xv1, h1.only o5 (by simp; omega) (fun b hb hm => by rw [List.mem_singleton.1 hm] at hb; exact (h2 _ hb).elim (fun h => hno _ (by omega) (turns_mem.2 (.inr h))) (fun h => by have h9 : W0.heap.size ≤ H + 1 := h; omega)) (fun k hk => by rw [List.mem_singleton.1 hk]; omega), fun b hb => (h2 b hb).imp id (fun h => by rw [HH.out]; have h9 : W0.heap.size ≤ b := h; omega), h3.keep fun b hb ho => ⟨o5.block b hb (by simp; have h9 : W0.heap.size ≤ b := ho.1; omega), by rw [HH.out]; have h9 : W0.heap.size ≤ b := ho.1; omega, ho.2⟩⟩), hno9⟩)
  · have z3 : (K == 3) = false := by simp [h3]
    by_cases h4 : K = 4
    · subst h4
      have hl1 : n2 = 2 := by simpa [wellR] using hwf
      subst hl1
      obtain ⟨f, a, hu⟩ : ∃ f a, ts = [f, a] := two_of hn2
      subst hu
      have HPE : Hid (appI [f.inf bs cs ms (ps.map (·.2)), a.inf bs cs ms (ps.map (·.2))] = P) := by show _ = _; rw [hOF, if_neg (by decide), if_pos rfl]; rfl
      obtain ⟨a9, c9, e9, _, hat⟩ := hr0.shape
      cases e9
      obtain ⟨g, o, s1, r1, rfl, hgN, hg, i0, i1, i2, i3, i4, hs1, hsr1⟩ := hat 0 f rfl
      obtain ⟨g', o', s2, r2, hgg, _, _, j0, j1, j2, j3, j4, hs2, hsr2⟩ := hat 1 a rfl
      cases hgg
      obtain ⟨sa, sc, rfl, _⟩ := hs1.shape
      obtain ⟨sd, se, rfl, _⟩ := hsr1.shape
      obtain ⟨ta, tc, rfl, _⟩ := hs2.shape
      obtain ⟨td, te, rfl, _⟩ := hsr2.shape
      have husz : ps.length + f.depth ≤ 900 := by simp only [depthR] at hrs; omega
      have husz' : ps.length + a.depth ≤ 900 := by simp only [depthR] at hrs; omega
      have hIf := hI f (by simp)
      have hIa := hI a (by simp)
      generalize f.ty.args.length = k1 at *
      generalize f.kids.length = k2 at *
      generalize a.ty.args.length = k3 at *
      generalize a.kids.length = k4 at *
      rw [show o + 0 * 5 = o by omega] at i0 i1 i2 i3 i4
      rw [show o + 1 * 5 = o + 5 by omega] at j0 j1 j2 j3 j4
      have kcall : ∀ cur, Only [] W0 cur → Calls Try.prog 93 #[.pointer (some ⟨C, 0, none⟩), rwv f.kind (.slice sa k1 sc) f.ty.base f.idx (.slice sd k2 se), rwv a.kind (.slice ta k3 tc) a.ty.base a.idx (.slice td k4 te)] cur (FindP P N C bs (.slice c1 cn c2) (.slice m1 mn m2) (.slice p1 pn p2) ps cur) := fun cur hcur => by
        have hbb := hcur.below (Nat.le_refl _) (by simp)
        have h9 := app_calls cs ms f a hIf hIa N C ps bs _ _ _ _ _ _ _ cur (hc0.bel hbb) (hm0.bel hbb) (hs1.bel hbb) (hsr1.bel hbb) (hs2.bel hbb) (hsr2.bel hbb) (hst0.bel hbb) HPS.out husz husz'
        rwa [HPE.out] at h9
      clear hI hL hIf hIa hat hOF hts hwf hrs
      have k0 := b0.cell 0
      have k1' := b0.cell 1
      have k2' := b0.cell 2
      have k3' := b0.cell 3
      have k4' := b0.cell 4
      have hgn : g ≠ H + 1 := by omega
      have hHn : H ≠ H + 1 := by omega
      have hK : ∀ (z : World), Only (turns C (.slice p1 pn p2)) W0 z → z.cell? ⟨H, 4, none⟩ = some (.slice (some ⟨g, o, none⟩) 2 x4) ∧ z.cell? ⟨g, o, none⟩ = some (.int .i64 f.kind) ∧ z.cell? ⟨g, o + 1, none⟩ = some (.slice sa k1 sc) ∧ z.cell? ⟨g, o + 2, none⟩ = some (.int .i64 f.ty.base) ∧ z.cell? ⟨g, o + 3, none⟩ = some (.int .i64 f.idx) ∧ z.cell? ⟨g, o + 4, none⟩ = some (.slice sd k2 se) ∧ z.cell? ⟨g, o + 5, none⟩ = some (.int .i64 a.kind) ∧ z.cell? ⟨g, o + 5 + 1, none⟩ = some (.slice ta k3 tc) ∧ z.cell? ⟨g, o + 5 + 2, none⟩ = some (.int .i64 a.ty.base) ∧ z.cell? ⟨g, o + 5 + 3, none⟩ = some (.int .i64 a.idx) ∧ z.cell? ⟨g, o + 5 + 4, none⟩ = some (.slice td k4 te) := fun z hz => ⟨(hz.cell (lt_of_cell k4') (hno H (Nat.le_refl _))).trans k4', (hz.cell (lt_of_cell i0) (fun h => by have := hG g h; omega)).trans i0, (hz.cell (lt_of_cell i1) (fun h => by have := hG g h; omega)).trans i1, (hz.cell (lt_of_cell i2) (fun h => by have := hG g h; omega)).trans i2, (hz.cell (lt_of_cell i3) (fun h => by have := hG g h; omega)).trans i3, (hz.cell (lt_of_cell i4) (fun h => by have := hG g h; omega)).trans i4, (hz.cell (lt_of_cell j0) (fun h => by have := hG g h; omega)).trans j0, (hz.cell (lt_of_cell j1) (fun h => by have := hG g h; omega)).trans j1, (hz.cell (lt_of_cell j2) (fun h => by have := hG g h; omega)).trans j2, (hz.cell (lt_of_cell j3) (fun h => by have := hG g h; omega)).trans j3, (hz.cell (lt_of_cell j4) (fun h => by have := hG g h; omega)).trans j4⟩
      have hK5 : ∀ (z : World) (v0 v1 : Value), (z.cell? ⟨H, 4, none⟩ = some (.slice (some ⟨g, o, none⟩) 2 x4) ∧ z.cell? ⟨g, o, none⟩ = some (.int .i64 f.kind) ∧ z.cell? ⟨g, o + 1, none⟩ = some (.slice sa k1 sc) ∧ z.cell? ⟨g, o + 2, none⟩ = some (.int .i64 f.ty.base) ∧ z.cell? ⟨g, o + 3, none⟩ = some (.int .i64 f.idx) ∧ z.cell? ⟨g, o + 4, none⟩ = some (.slice sd k2 se) ∧ z.cell? ⟨g, o + 5, none⟩ = some (.int .i64 a.kind) ∧ z.cell? ⟨g, o + 5 + 1, none⟩ = some (.slice ta k3 tc) ∧ z.cell? ⟨g, o + 5 + 2, none⟩ = some (.int .i64 a.ty.base) ∧ z.cell? ⟨g, o + 5 + 3, none⟩ = some (.int .i64 a.idx) ∧ z.cell? ⟨g, o + 5 + 4, none⟩ = some (.slice td k4 te)) → (fun (z : World) => z.cell? ⟨H, 4, none⟩ = some (.slice (some ⟨g, o, none⟩) 2 x4) ∧ z.cell? ⟨g, o, none⟩ = some (.int .i64 f.kind) ∧ z.cell? ⟨g, o + 1, none⟩ = some (.slice sa k1 sc) ∧ z.cell? ⟨g, o + 2, none⟩ = some (.int .i64 f.ty.base) ∧ z.cell? ⟨g, o + 3, none⟩ = some (.int .i64 f.idx) ∧ z.cell? ⟨g, o + 4, none⟩ = some (.slice sd k2 se) ∧ z.cell? ⟨g, o + 5, none⟩ = some (.int .i64 a.kind) ∧ z.cell? ⟨g, o + 5 + 1, none⟩ = some (.slice ta k3 tc) ∧ z.cell? ⟨g, o + 5 + 2, none⟩ = some (.int .i64 a.ty.base) ∧ z.cell? ⟨g, o + 5 + 3, none⟩ = some (.int .i64 a.idx) ∧ z.cell? ⟨g, o + 5 + 4, none⟩ = some (.slice td k4 te)) ((z.setCell ⟨H + 1, 0, none⟩ v0).setCell ⟨H + 1, 1, none⟩ v1) := fun z v0 v1 ⟨i90, i91, i92, i93, i94, i95, i96, i97, i98, i99, i910⟩ => ⟨by rw [cell_other hHn, cell_other hHn, i90], by rw [cell_other hgn, cell_other hgn, i91], by rw [cell_other hgn, cell_other hgn, i92], by rw [cell_other hgn, cell_other hgn, i93], by rw [cell_other hgn, cell_other hgn, i94], by rw [cell_other hgn, cell_other hgn, i95], by rw [cell_other hgn, cell_other hgn, i96], by rw [cell_other hgn, cell_other hgn, i97], by rw [cell_other hgn, cell_other hgn, i98], by rw [cell_other hgn, cell_other hgn, i99], by rw [cell_other hgn, cell_other hgn, i910]⟩
      go_enter Try.func74, Try.ntmps74
      go_upto_region 1 with fail
      rw [HW.out]
      clear HW
      have hcur := Only.refl [] W0
      have hcur2 := Only.refl (turns C (.slice p1 pn p2)) W0
      go_upto_region 5 with fail
      clear hH
      go_region_held3 (fun (z : World) => z.cell? ⟨H, 4, none⟩ = some (.slice (some ⟨g, o, none⟩) 2 x4) ∧ z.cell? ⟨g, o, none⟩ = some (.int .i64 f.kind) ∧ z.cell? ⟨g, o + 1, none⟩ = some (.slice sa k1 sc) ∧ z.cell? ⟨g, o + 2, none⟩ = some (.int .i64 f.ty.base) ∧ z.cell? ⟨g, o + 3, none⟩ = some (.int .i64 f.idx) ∧ z.cell? ⟨g, o + 4, none⟩ = some (.slice sd k2 se) ∧ z.cell? ⟨g, o + 5, none⟩ = some (.int .i64 a.kind) ∧ z.cell? ⟨g, o + 5 + 1, none⟩ = some (.slice ta k3 tc) ∧ z.cell? ⟨g, o + 5 + 2, none⟩ = some (.int .i64 a.ty.base) ∧ z.cell? ⟨g, o + 5 + 3, none⟩ = some (.int .i64 a.idx) ∧ z.cell? ⟨g, o + 5 + 4, none⟩ = some (.slice td k4 te))
        (first | with_reducible exact hK _ (by first | with_reducible assumption | (with_reducible refine Only.drew ?_; assumption)) | with_reducible exact hK5 _ _ _ (hK _ (by first | with_reducible assumption | (with_reducible refine Only.drew ?_; assumption))))
        ((go_at_call 93; refine (kcall _ (by first | with_reducible assumption | (with_reducible refine Only.drew ?_; assumption))).mono ?_; unfold FindP; rintro e y9 ⟨a9, m9, e9, rfl, hO9, hyes, hno9⟩; have hOy : Only (turns C (.slice p1 pn p2)) W0 y9 := (Only.refl _ W0).drew.trans hO9; have k9 := b1.only hOy (hno _ (by omega)); have r0 := k9.cell 0; have r1 := k9.cell 1; have f0 := k9.frozen 0; have f1 := k9.frozen 1))
      all_goals
        have HY : Hid _ := hyes
        clear hyes
        have e0 := k9.cell 0
        have e1 := k9.cell 1
        have f0 := k9.frozen 0
        have f1 := k9.frozen 1
        have b5 := (k9.set 0 (.slice a9 m9 e9)).set 1 (.int .i64 P.2.base)
        have o5 : Only [H + 1] y9 ((y9.setCell ⟨H + 1, 0, none⟩ (.slice a9 m9 e9)).setCell ⟨H + 1, 1, none⟩ (.int .i64 P.2.base)) := ((Only.refl _ _).set (by simp) 0 _).set (by simp) 1 _
        go_wp2
        generalize (y9.setCell ⟨H + 1, 0, none⟩ (.slice a9 m9 e9)).setCell ⟨H + 1, 1, none⟩ (.int .i64 P.2.base) = W5 at *
        have g0 : W5.cell? ⟨H + 1, 0, none⟩ = some (.slice a9 m9 e9) := b5.cell 0
        have g1 : W5.cell? ⟨H + 1, 1, none⟩ = some (.int .i64 P.2.base) := b5.cell 1
        exact bodyPost_ret (v := .tuple #[tv (.slice a9 m9 e9) P.2.base, .int .i64 P.1]) (by simp [results, Try.results74, go_sem, g0, g1]) rfl (by unfold FindP; exact ⟨a9, m9, e9, rfl, (HO0.out.trans hOy).then o5 (fun x hx hlt => by rw [List.mem_singleton.1 hx, HH.out] at hlt; omega), fun h => (by obtain ⟨xv1, h1, h2, h3⟩ := HY.out h; exact ⟨xv1, h1.only o5 (by simp; omega) (fun b hb hm => by rw [List.mem_singleton.1 hm] at hb; exact (h2 _ hb).elim (fun h => hno _ (by omega) (turns_mem.2 (.inr h))) (fun h => by have h9 : W0.heap.size ≤ H + 1 := h; omega)) (fun k hk => by rw [List.mem_singleton.1 hk]; omega), fun b hb => (h2 b hb).imp id (fun h => by rw [HH.out]; have h9 : W0.heap.size ≤ b := h; omega), h3.keep fun b hb ho => ⟨o5.block b hb (by simp; have h9 : W0.heap.size ≤ b := ho.1; omega), by rw [HH.out]; have h9 : W0.heap.size ≤ b := ho.1; omega, ho.2⟩⟩), hno9⟩)
    · have z4 : (K == 4) = false := by simp [h4]
      have HPE : Hid (headI (pickA cs ms (ps.map (·.2)) K r.idx) = P) := by show _ = _; rw [hOF, if_neg h3, if_neg h4]
      have hctx : Holds W0 okT (ps.map (·.2)) (.slice p1 pn p2) := by
        have h8 := holds_of_row (ok := okT) (show W0.ownsRow N 32 2 (.slice p1 pn p2) ps.length (pcells ps) from hst0.row) (fun p hp => (hst0.kid p hp).mono fun _ _ _ => trivial) (fun _ _ => trivial)
        exact h8
      have hsx : sizeL (ps.map (·.2)) ≤ 1000000 := by
        have h8 := sizeL_le (ps.map (·.2)) 1000 (fun u hu => by obtain ⟨p, hp, rfl⟩ := List.mem_map.1 hu; exact HPS.out p hp)
        rw [List.length_map] at h8
        have := r.size_pos
        omega
      have kcall : ∀ cur, Only [] W0 cur → Calls Try.prog 94 #[wov bs (.slice c1 cn c2) (.slice m1 mn m2), .slice p1 pn p2, hv K r.idx] cur (fun e w' => FindP P N C bs (.slice c1 cn c2) (.slice m1 mn m2) (.slice p1 pn p2) ps cur e w' ∧ Only [] cur w') := fun cur hcur => by
        have hbb := hcur.below (Nat.le_refl _) (by simp)
        refine (HeadTypeN_calls cs ms (ps.map (·.2)) bs K r.idx _ _ _ cur ((hc0.bel hbb).mono fun _ _ _ => trivial) ((hm0.bel hbb).mono fun _ _ _ => trivial) (hctx.bel hbb) hcs hms hsx hix).mono fun e w' ⟨h5, h6⟩ => ?_
        have hst9 := (hst0.bel hbb).bel h6
        rcases h5 with ⟨h7, rfl⟩ | ⟨hh, a, n, c, h7, h8, rfl⟩
        · have e9 : P = (10, zT) := by rw [← HPE.out, h7]; rfl
          unfold FindP
          rw [e9]
          exact ⟨⟨none, 0, 0, rfl, Only.of_below' h6, fun h => absurd h (by decide), fun _ => ⟨rfl, rfl⟩⟩, Only.of_below' h6⟩
        · have e9 : P = (0, hh) := by rw [← HPE.out, h7]; rfl
          unfold FindP
          rw [e9]
          exact ⟨⟨a, n, c, rfl, Only.of_below' h6, fun _ => ⟨_, hst9, fun b h => .inl h, h8.mono fun b _ h => ⟨h, fun e => by have := ((hst0.bel hbb).row.lt b e).2; omega⟩⟩, fun h => absurd rfl h⟩, Only.of_below' h6⟩
      have q0 := hst0.box.cell 0
      have q1 := hst0.box.cell 1
      have q2 := hst0.box.cell 2
      have q3 := hst0.box.cell 3
      clear hI hL hOF hts hwf hrs h3 h4 hctx hsx
      have k0 := b0.cell 0
      have k1' := b0.cell 1
      have k2' := b0.cell 2
      have k3' := b0.cell 3
      have k4' := b0.cell 4
      have hCn : C ≠ H + 1 := by omega
      have hHn : H ≠ H + 1 := by omega
      have hK : ∀ (z : World), Only [] W0 z → z.cell? ⟨H, 0, none⟩ = some (.int .i64 K) ∧ z.cell? ⟨H, 3, none⟩ = some (.int .i64 r.idx) ∧ z.cell? ⟨C, 0, none⟩ = some (.int .i64 bs) ∧ z.cell? ⟨C, 1, none⟩ = some (.slice c1 cn c2) ∧ z.cell? ⟨C, 2, none⟩ = some (.slice m1 mn m2) ∧ z.cell? ⟨C, 3, none⟩ = some (.slice p1 pn p2) := fun z hz => ⟨(hz.cell (lt_of_cell k0) (by simp)).trans k0, (hz.cell (lt_of_cell k3') (by simp)).trans k3', (hz.cell (lt_of_cell q0) (by simp)).trans q0, (hz.cell (lt_of_cell q1) (by simp)).trans q1, (hz.cell (lt_of_cell q2) (by simp)).trans q2, (hz.cell (lt_of_cell q3) (by simp)).trans q3⟩
      have hK5 : ∀ (z : World) (v0 v1 : Value), (z.cell? ⟨H, 0, none⟩ = some (.int .i64 K) ∧ z.cell? ⟨H, 3, none⟩ = some (.int .i64 r.idx) ∧ z.cell? ⟨C, 0, none⟩ = some (.int .i64 bs) ∧ z.cell? ⟨C, 1, none⟩ = some (.slice c1 cn c2) ∧ z.cell? ⟨C, 2, none⟩ = some (.slice m1 mn m2) ∧ z.cell? ⟨C, 3, none⟩ = some (.slice p1 pn p2)) → (fun (z : World) => z.cell? ⟨H, 0, none⟩ = some (.int .i64 K) ∧ z.cell? ⟨H, 3, none⟩ = some (.int .i64 r.idx) ∧ z.cell? ⟨C, 0, none⟩ = some (.int .i64 bs) ∧ z.cell? ⟨C, 1, none⟩ = some (.slice c1 cn c2) ∧ z.cell? ⟨C, 2, none⟩ = some (.slice m1 mn m2) ∧ z.cell? ⟨C, 3, none⟩ = some (.slice p1 pn p2)) ((z.setCell ⟨H + 1, 0, none⟩ v0).setCell ⟨H + 1, 1, none⟩ v1) := fun z v0 v1 ⟨i90, i91, i92, i93, i94, i95⟩ => ⟨by rw [cell_other hHn, cell_other hHn, i90], by rw [cell_other hHn, cell_other hHn, i91], by rw [cell_other hCn, cell_other hCn, i92], by rw [cell_other hCn, cell_other hCn, i93], by rw [cell_other hCn, cell_other hCn, i94], by rw [cell_other hCn, cell_other hCn, i95]⟩
      go_enter Try.func74, Try.ntmps74
      go_upto_region 1 with fail
      rw [HW.out]
      clear HW
      have hcur := Only.refl [] W0
      have hcur2 := Only.refl (turns C (.slice p1 pn p2)) W0
      go_upto_region 6 with fail
      clear hH
      go_region_held3 (fun (z : World) => z.cell? ⟨H, 0, none⟩ = some (.int .i64 K) ∧ z.cell? ⟨H, 3, none⟩ = some (.int .i64 r.idx) ∧ z.cell? ⟨C, 0, none⟩ = some (.int .i64 bs) ∧ z.cell? ⟨C, 1, none⟩ = some (.slice c1 cn c2) ∧ z.cell? ⟨C, 2, none⟩ = some (.slice m1 mn m2) ∧ z.cell? ⟨C, 3, none⟩ = some (.slice p1 pn p2))
        (first | with_reducible exact hK _ (by first | with_reducible assumption | (with_reducible refine Only.drew ?_; assumption)) | with_reducible exact hK5 _ _ _ (hK _ (by first | with_reducible assumption | (with_reducible refine Only.drew ?_; assumption))))
        ((go_at_call 94; refine (kcall _ (by first | with_reducible assumption | (with_reducible refine Only.drew ?_; assumption))).mono ?_; unfold FindP; rintro e y9 ⟨⟨a9, m9, e9, rfl, hO9, hyes, hno9⟩, hOe⟩; have hOy : Only (turns C (.slice p1 pn p2)) W0 y9 := (Only.refl _ W0).drew.trans hO9; have hOz : Only [] W0 y9 := (Only.refl _ W0).drew.trans hOe; have k9 := b1.only hOy (hno _ (by omega)); have r0 := k9.cell 0; have r1 := k9.cell 1; have f0 := k9.frozen 0; have f1 := k9.frozen 1))
      all_goals
        have HY : Hid _ := hyes
        clear hyes
        have e0 := k9.cell 0
        have e1 := k9.cell 1
        have f0 := k9.frozen 0
        have f1 := k9.frozen 1
        have b5 := (k9.set 0 (.slice a9 m9 e9)).set 1 (.int .i64 P.2.base)
        have o5 : Only [H + 1] y9 ((y9.setCell ⟨H + 1, 0, none⟩ (.slice a9 m9 e9)).setCell ⟨H + 1, 1, none⟩ (.int .i64 P.2.base)) := ((Only.refl _ _).set (by simp) 0 _).set (by simp) 1 _
        go_wp2
        generalize (y9.setCell ⟨H + 1, 0, none⟩ (.slice a9 m9 e9)).setCell ⟨H + 1, 1, none⟩ (.int .i64 P.2.base) = W5 at *
        have g0 : W5.cell? ⟨H + 1, 0, none⟩ = some (.slice a9 m9 e9) := b5.cell 0
        have g1 : W5.cell? ⟨H + 1, 1, none⟩ = some (.int .i64 P.2.base) := b5.cell 1
        exact bodyPost_ret (v := .tuple #[tv (.slice a9 m9 e9) P.2.base, .int .i64 P.1]) (by simp [results, Try.results74, go_sem, g0, g1]) rfl (by unfold FindP; exact ⟨a9, m9, e9, rfl, (HO0.out.trans hOy).then o5 (fun x hx hlt => by rw [List.mem_singleton.1 hx, HH.out] at hlt; omega), fun h => (by obtain ⟨xv1, h1, h2, h3⟩ := HY.out h; exact ⟨xv1, h1.only o5 (by simp; omega) (fun b hb hm => by rw [List.mem_singleton.1 hm] at hb; exact (h2 _ hb).elim (fun h => hno _ (by omega) (turns_mem.2 (.inr h))) (fun h => by have h9 : W0.heap.size ≤ H + 1 := h; omega)) (fun k hk => by rw [List.mem_singleton.1 hk]; omega), fun b hb => (h2 b hb).imp id (fun h => by rw [HH.out]; have h9 : W0.heap.size ≤ b := h; omega), h3.keep fun b hb ho => ⟨o5.block b hb (by simp; have h9 : W0.heap.size ≤ b := ho.1; omega), by rw [HH.out]; have h9 : W0.heap.size ≤ b := ho.1; omega, ho.2⟩⟩), hno9⟩)

end Go.Proofs.Ytckagmagjogmnaa

namespace Go.Proofs.Ytckagmagjogmnaa
open Go Go.RowKit

theorem one_of {qs : List (Value × Ty)} {t : Ty} (h : qs.map (·.2) = [t]) : ∃ s, qs = [(s, t)] := by
  match qs, h with
  | [(s, u)], h => 
    have e : u = t := by simpa using h
    exact ⟨s, by rw [e]⟩
theorem row_last {w : World} {N pn : Nat} {v s : Value} {t : Ty} {ps : List (Value × Ty)} (hpn : ps.length = pn) (h : w.ownsRow N 32 2 v (ps ++ [(s, t)]).length (pcells (ps ++ [(s, t)]))) :
    ∃ g c, v = .slice (some ⟨g, 0, none⟩) (pn + 1) c ∧ N ≤ g ∧ g < w.heap.size ∧ w.cell? ⟨g, pn * 2, none⟩ = some s ∧ w.cell? ⟨g, pn * 2 + 1, none⟩ = some (.int .i64 t.base) ∧ w.frozen? ⟨g, pn * 2, none⟩ = false ∧ w.frozen? ⟨g, pn * 2 + 1, none⟩ = false := by
  have hl : (ps ++ [(s, t)]).length = pn + 1 := by simp [hpn]
  rw [hl] at h
  obtain ⟨va, vc, rfl⟩ := row_shape h
  obtain ⟨g, c, e, h1, h2⟩ := h.form (by omega)
  cases e
  have hc := World.ownsRow.cellAt h
  have hg := pcells_get (ps ++ [(s, t)]) pn (s, t) (by rw [← hpn, List.getElem?_append_right (Nat.le_refl _)]; simp)
  exact ⟨g, _, rfl, h1, h2, (hc _ (by omega)).trans hg.1, (hc _ (by omega)).trans hg.2, row_frozen h _, row_frozen h _⟩

theorem holds_zT (w : World) (n : Nat) (hn : w.heap.size = n) (e : TypeId) : Holds (w.alloc (.cells #[.slice none 0 0, .int .i64 0] e)) okT [zT] (.slice (some ⟨n, 0, none⟩) 1 1) := by
  have hk := Blk.new' w n e #[.slice none 0 0, .int .i64 0] hn
  refine Holds.mk [zT] (some ⟨n, 0, none⟩) 1 (fun _ => .slice none 0 0) (Nat.le_refl _) (fun h => by cases h) ?_ ?_
  · intro i u hi
    match i, hi with
    | 0, hi => cases hi; exact ⟨n, 0, rfl, trivial, hk.cell 0, hk.cell 1⟩
    | i + 1, hi => simp at hi
  · intro i u hi
    match i, hi with
    | 0, hi => cases hi; exact Holds.nil _ _ _ _ (fun _ => rfl)
    | i + 1, hi => simp at hi

theorem holds_one {w : World} {n : Nat} {t : Ty} {s : Value} (hs : Holds w okT t.args s) (hn : w.heap.size = n) (e : TypeId) : Holds (w.alloc (.cells #[s, .int .i64 t.base] e)) okT [t] (.slice (some ⟨n, 0, none⟩) 1 1) := by
  have hk := Blk.new' w n e #[s, .int .i64 t.base] hn
  refine Holds.mk [t] (some ⟨n, 0, none⟩) 1 (fun _ => s) (Nat.le_refl _) (fun h => by cases h) ?_ ?_
  · intro i u hi
    match i, hi with
    | 0, hi => cases hi; exact ⟨n, 0, rfl, trivial, hk.cell 0, hk.cell 1⟩
    | i + 1, hi => simp at hi
  · intro i u hi
    match i, hi with
    | 0, hi => cases hi; exact hs.alloc _
    | i + 1, hi => simp at hi
/-- The stack with one type more. -/
structure Pushed (w1 w3 : World) (N C : Nat) (bs : Int) (cv mv xv st : Value) (ps : List (Value × Ty)) (t : Ty) (pn g c : Nat) : Prop where
  stk : Stk w3 N C bs cv mv (.slice (some ⟨g, 0, none⟩) (pn + 1) c) (ps ++ [(st, t)])
  only : Only (turns C xv) w1 w3
  own : xv.ownBlock = some g ∨ w1.heap.size ≤ g
theorem pushed {w1 w2 W : World} {N C : Nat} {bs : Int} {cv mv xv st s0 : Value} {ps : List (Value × Ty)} {t : Ty} {pn g c : Nat} (o : Obj) (hst : Stk w1 N C bs cv mv xv ps) (hk : Holds w1 (fun b => b < N) t.args st) (hpn : ps.length = pn)
    (hown : w2.ownsRow N 32 2 (.slice (some ⟨g, 0, none⟩) (pn + 1) c) (ps ++ [(s0, zT)]).length (pcells (ps ++ [(s0, zT)]))) (hgr : (w1.alloc o).grownBy w2 xv.ownBlock) (hat : (Value.slice (some ⟨g, 0, none⟩) (pn + 1) c).ownBlock = xv.ownBlock ∨ (Value.slice (some ⟨g, 0, none⟩) (pn + 1) c).ownBlock = some (w1.alloc o).heap.size)
    (hNg : N ≤ g) (hgC : g ≠ C) (hbC : Blk w2 C 98 #[.int .i64 bs, cv, mv, xv])
    (hW : W = ((w2.setCell ⟨g, pn * 2, none⟩ st).setCell ⟨g, pn * 2 + 1, none⟩ (.int .i64 t.base)).setCell ⟨C, 3, none⟩ (.slice (some ⟨g, 0, none⟩) (pn + 1) c) ∨ W = ((w2.setCell ⟨C, 3, none⟩ (.slice (some ⟨g, 0, none⟩) (pn + 1) c)).setCell ⟨g, pn * 2, none⟩ st).setCell ⟨g, pn * 2 + 1, none⟩ (.int .i64 t.base)) :
    Pushed w1 W N C bs cv mv xv st ps t pn g c := by
  have hl0 : (ps ++ [(s0, zT)]).length = pn + 1 := by simp [hpn]
  have hl1 : (ps ++ [(st, t)]).length = pn + 1 := by simp [hpn]
  have hps := pcells_set ps (s0, zT) [] st t
  rw [hpn] at hps
  rw [hl0] at hown
  have hC1 : ∀ b, (Value.slice (some ⟨g, 0, none⟩) (pn + 1) c).ownBlock = some b → b ∉ [C] := fun b e hm => by
    cases e
    exact hgC (List.mem_singleton.1 hm)
  have hat' : xv.ownBlock = some g ∨ w1.heap.size ≤ g := by
    rcases hat with h | h
    · exact .inl h.symm
    · right
      have e9 : some g = some (w1.alloc o).heap.size := h
      injection e9 with e9
      rw [e9]; simp
  have hO2 : Only (C :: g :: xv.ownBlock.toList) w1 w2 := ((Only.refl _ w1).alloc o).trans ⟨hgr.os, hgr.tape, hgr.output, hgr.size, fun k hk hn => hgr.block k hk (fun e => hn (by rw [← e]; simp))⟩
  have hOW : Only (C :: g :: xv.ownBlock.toList) w1 W := by
    rcases hW with rfl | rfl
    · exact ((hO2.set (by simp) _ _).set (by simp) _ _).set (by simp) _ _
    · exact ((hO2.set (by simp) _ _).set (by simp) _ _).set (by simp) _ _
  have hbW : Blk W C 98 #[.int .i64 bs, cv, mv, .slice (some ⟨g, 0, none⟩) (pn + 1) c] := by
    rcases hW with rfl | rfl
    · exact ((hbC.other hgC.symm _ _).other hgC.symm _ _).set 3 _
    · exact ((hbC.set 3 _).other hgC.symm _ _).other hgC.symm _ _
  have hrW : W.ownsRow N 32 2 (.slice (some ⟨g, 0, none⟩) (pn + 1) c) (pn + 1) (pcells (ps ++ [(st, t)])) := by
    rw [← hps]
    rcases hW with rfl | rfl
    · exact row_onlyS (row_set (row_set hown (pn * 2) st) (pn * 2 + 1) (.int .i64 t.base)) (Only.set (B := C) (Only.refl [C] _) (by simp) 3 _) hC1
    · exact row_set (row_set (row_onlyS hown (Only.set (B := C) (Only.refl [C] _) (by simp) 3 _) hC1) (pn * 2) st) (pn * 2 + 1) (.int .i64 t.base)
  have hlow : ∀ k ∈ C :: g :: xv.ownBlock.toList, N ≤ k := fun k hk => by
    rcases List.mem_cons.1 hk with rfl | hk
    · exact hst.low
    · rcases List.mem_cons.1 hk with rfl | hk
      · exact hNg
      · exact (hst.row.lt k (Option.mem_toList.1 hk)).1
  refine ⟨⟨hbW, by rw [hl1]; exact hrW, fun p hp => ?_, hst.low⟩, hOW.mono fun k hk hl => ?_, hat'⟩
  · rcases List.mem_append.1 hp with hp | hp
    · exact (hst.kid p hp).keep fun b hb ho => ⟨hOW.block b hb (fun hm => by have := hlow b hm; omega), ho⟩
    · rw [List.mem_singleton.1 hp]
      exact hk.keep fun b hb ho => ⟨hOW.block b hb (fun hm => by have := hlow b hm; omega), ho⟩
  · rcases List.mem_cons.1 hk with rfl | hk
    · exact turns_mem.2 (.inl rfl)
    · rcases List.mem_cons.1 hk with rfl | hk
      · exact turns_mem.2 (.inr (hat'.elim id (fun h => by omega)))
      · exact turns_mem.2 (.inr (Option.mem_toList.1 hk))
/-- The stack with one type less. -/
theorem popped {w : World} {N C : Nat} {bs : Int} {cv mv : Value} {ya : Option Addr} {n4 yc pn : Nat} {ps : List (Value × Ty)} {q : Value × Ty} (hst : Stk w N C bs cv mv (.slice ya n4 yc) (ps ++ [q])) (hpn : ps.length = pn) : Stk (w.setCell ⟨C, 3, none⟩ (.slice ya pn yc)) N C bs cv mv (.slice ya pn yc) ps := by
  have hCx := row_other hst.row hst.box (by decide)
  have hn4 : n4 = (ps ++ [q]).length := by
    obtain ⟨va, vc, e⟩ := row_shape hst.row
    cases e; rfl
  subst hn4
  have hrow := row_front hst.row
  rw [hpn] at hrow
  refine ⟨hst.box.set 3 (.slice ya pn yc), ?_, fun p hp => ?_, hst.low⟩
  · rw [hpn]
    exact row_onlyS hrow (Only.set (B := C) (Only.refl [C] w) (by simp) 3 _) (fun b hb hm => hCx (by rw [own_same ya _ pn yc, hb, List.mem_singleton.1 hm]))
  · exact (hst.kid p (List.mem_append_left _ hp)).keep fun b hb ho => ⟨Only.block (Only.set (B := C) (Only.refl [C] w) (by simp) 3 _) b hb (fun hm => by have := List.mem_singleton.1 hm; have := hst.low; omega), ho⟩
theorem join3 {G : Prop} {X : World → Nat → Nat → Prop} {M : World → Nat → Nat → Prop} (hmain : (∀ W g c, M W g c → X W g c) → G) (hside : ∀ W g c, M W g c → X W g c) : G := hmain hside

set_option maxRecDepth 100000 in
set_option maxHeartbeats 3200000 in
theorem lam_calls (cs ms : List Ty) (t : Ty) (r : Rw) (htz : t.size ≤ 900000) (hI : FindAt 54 cs ms (fun ctx bs => r.inf bs cs ms ctx) r) : LamAt cs ms t r := by
  intro N C ps bs cv mv xv st sb sr w hc hm ht hb hr hst hps hlen
  obtain ⟨i0, hi, hz0, hz1, hz2⟩ := info_parts info29
  have hT := hst.lt
  have hG := hst.ge
  have hNC := hst.low
  obtain ⟨p1, p2, hpx⟩ := row_shape hst.row
  obtain ⟨pn, hpn⟩ : ∃ n, ps.length = n := ⟨_, rfl⟩
  rw [hpn] at hpx
  subst hpx
  obtain ⟨x1, x2, hx, _⟩ := hb.shape
  obtain ⟨x3, x4, hx', _⟩ := hr.shape
  obtain ⟨y1, y2, hy, _⟩ := ht.shape
  generalize r.ty.args.length = n1 at hx
  generalize r.kids.length = n2 at hx'
  obtain ⟨n3, hn3⟩ : ∃ n, t.args.length = n := ⟨_, rfl⟩
  rw [hn3] at hy
  subst hx hx' hy
  obtain ⟨H, hH⟩ : ∃ H, w.heap.size = H := ⟨_, rfl⟩
  rw [hH] at hT
  obtain ⟨W0, hW0⟩ : ∃ W0, ((w.alloc (.cells #[.slice y1 n3 y2, .int .i64 t.base] 32)).alloc (.cells #[.int .i64 r.kind, .slice x1 n1 x2, .int .i64 r.ty.base, .int .i64 r.idx, .slice x3 n2 x4] 35)).alloc (.cells #[.slice none 0 0, .int .i64 0] 32) = W0 := ⟨_, rfl⟩
  have b0 : Blk W0 H 32 #[.slice y1 n3 y2, .int .i64 t.base] := by rw [← hW0]; exact ((Blk.new' w H 32 _ hH).alloc _).alloc _
  have b1 : Blk W0 (H + 1) 35 #[.int .i64 r.kind, .slice x1 n1 x2, .int .i64 r.ty.base, .int .i64 r.idx, .slice x3 n2 x4] := by rw [← hW0]; exact (Blk.new' _ (H + 1) 35 _ (by simp [hH])).alloc _
  have b2 : Blk W0 (H + 1 + 1) 32 #[.slice none 0 0, .int .i64 0] := by rw [← hW0]; exact Blk.new' _ (H + 1 + 1) 32 _ (by simp [hH])
  have bl : Below H w W0 := by rw [← hW0]; exact (((Below.refl H w).alloc (by omega) _).alloc (by simp; omega) _).alloc (by simp; omega) _
  have hz : W0.heap.size = H + 1 + 1 + 1 := by rw [← hW0]; simp [hH]
  have hbw : Below w.heap.size w W0 := hH ▸ bl
  have HCT : Hid (C ∈ turns C (.slice p1 pn p2)) := turns_mem.2 (.inl rfl)
  have hCH : C < H := hT C HCT.out
  have HO0 : Hid (Only (turns C (.slice p1 pn p2)) w W0) := Only.of_below' hbw
  have HH : Hid (w.heap.size = H) := hH
  have HW : Hid _ := hW0
  have HPS : Hid _ := hps
  have ht0 := ht.bel hbw
  have hst0 := hst.bel hbw
  have hno : ∀ k, H ≤ k → k ∉ turns C (.slice p1 pn p2) := fun k hk h => by have := hT _ h; omega
  obtain ⟨q, hq⟩ : ∃ q, rightB bs t = q := ⟨_, rfl⟩
  have HQ : Hid (rightB bs t = q) := hq
  obtain ⟨P, hP⟩ : ∃ P, (if rightB bs t = true then lamI t [r.inf bs cs ms (ps.map (·.2) ++ [t])] else (2, zT)) = P := ⟨_, rfl⟩
  rw [hP]
  have HP : Hid ((if q = true then lamI t [r.inf bs cs ms (ps.map (·.2) ++ [t])] else (2, zT)) = P) := by show _ = _; rw [← hP, hq]
  have kR : ∀ cur, Cur W0 cur → Calls Try.prog 64 #[tv (.slice y1 n3 y2) t.base, .int .i64 bs] cur fun e w' => e = .returned (.bool q) ∧ Below cur.heap.size cur w' ∧ Cur W0 w' := fun cur hcur => by
    have h9 := kRight_calls bs t _ _ cur (hcur.holds ht0) htz
    rw [hq] at h9
    exact h9.mono fun e w' h => ⟨h.1, h.2, hcur.then h.2⟩
  have k0 := b0.cell 0
  have k1 := b0.cell 1
  have q0 := hst0.box.cell 0
  have hK : ∀ (z : World), Cur W0 z → z.cell? ⟨H, 0, none⟩ = some (.slice y1 n3 y2) ∧ z.cell? ⟨H, 1, none⟩ = some (.int .i64 t.base) ∧ z.cell? ⟨C, 0, none⟩ = some (.int .i64 bs) := fun z hz => ⟨hz.cell k0, hz.cell k1, hz.cell q0⟩
  have hcur := Cur.refl W0
  clear hW0 hq hP hst0 ht0
  go_enter Try.func92, Try.ntmps92
  go_upto_region 1 with fail
  rw [HW.out]
  clear HW hH
  go_region_held3 (fun (z : World) => z.cell? ⟨H, 0, none⟩ = some (.slice y1 n3 y2) ∧ z.cell? ⟨H, 1, none⟩ = some (.int .i64 t.base) ∧ z.cell? ⟨C, 0, none⟩ = some (.int .i64 bs))
    (with_reducible exact hK _ (by first | with_reducible assumption | (with_reducible refine Cur.drew ?_; assumption)))
    ((go_at_call 64; refine (kR _ (by first | with_reducible assumption | (with_reducible refine Cur.drew ?_; assumption))).mono ?_; rintro e w1 ⟨rfl, hb1, hc1⟩))
  all_goals
    have hb01 : Below W0.heap.size W0 w1 := hc1
    have e0 := b0.below hb01 b0.lt
    have e1 := b1.below hb01 b1.lt
    have e2 := b2.below hb01 b2.lt
    have hO1 : Only (turns C (.slice p1 pn p2)) w w1 := HO0.out.trans (Only.of_below' hb01)
    have hbw1 : Below w.heap.size w w1 := hbw.trans (hb01.mono (by rw [HH.out]; omega))
    have hst1 := hst.bel hbw1
    have hs1 := hb01.size
    clear hb1 hc1 k0 k1 q0 hK hcur b0 b1 b2 hbw kR
    cases q with
    | false =>
      have HPE : Hid (P = (2, zT)) := by show _ = _; rw [← HP.out]; rfl
      clear hst1
      have z0 := e2.cell 0
      have z1 := e2.cell 1
      have f0 := e2.frozen 0
      have f1 := e2.frozen 1
      have b5 := (e2.set 0 (.slice none 0 0)).set 1 (.int .i64 0)
      have o5 : Only [H + 1 + 1] w1 ((w1.setCell ⟨H + 1 + 1, 0, none⟩ (.slice none 0 0)).setCell ⟨H + 1 + 1, 1, none⟩ (.int .i64 0)) := ((Only.refl _ _).set (by simp) 0 _).set (by simp) 1 _
      go_wp2
      generalize (w1.setCell ⟨H + 1 + 1, 0, none⟩ (.slice none 0 0)).setCell ⟨H + 1 + 1, 1, none⟩ (.int .i64 0) = W5 at *
      have g0 : W5.cell? ⟨H + 1 + 1, 0, none⟩ = some (.slice none 0 0) := b5.cell 0
      have g1 : W5.cell? ⟨H + 1 + 1, 1, none⟩ = some (.int .i64 0) := b5.cell 1
      exact bodyPost_ret (v := .tuple #[tv (.slice none 0 0) 0, .int .i64 2]) (by simp [results, Try.results92, go_sem, g0, g1]) rfl (by unfold FindP; rw [HPE.out]; exact ⟨none, 0, 0, rfl, hO1.then o5 (fun x hx hlt => by rw [List.mem_singleton.1 hx, HH.out] at hlt; omega), fun h => absurd h (by decide), fun _ => ⟨rfl, rfl⟩⟩)
    | true =>
      have HPE : Hid (lamI t [r.inf bs cs ms (ps.map (·.2) ++ [t])] = P) := by show _ = _; rw [← HP.out]; rfl
      have t0 := e0.cell 0
      have t1 := e0.cell 1
      have u3 := hst1.box.cell 3
      have v3 := hst1.box.frozen 3
      have HST1 : Hid _ := hst1
      have hCn := row_other hst1.row hst1.box (by decide)
      have hkt : Holds w1 (fun b => b < N) t.args (.slice y1 n3 y2) := ht.bel hbw1
      have htq : t.size ≤ 1000 := by have h9 := HQ.out; unfold rightB fewB at h9; simp at h9; exact h9.1.1
      have hN1 : N ≤ w1.heap.size := by have := hst1.box.lt; omega
      have hpl : (pn : Int) < 1000 := by omega
      have hHl : H < w1.heap.size := by omega
      have hCl : C < w1.heap.size := by omega
      have A0 : (w1.alloc (.cells #[.slice none 0 0, .int .i64 0] 32)).cell? ⟨H, 0, none⟩ = some (.slice y1 n3 y2) := (e0.alloc _).cell 0
      have A1 : (w1.alloc (.cells #[.slice none 0 0, .int .i64 0] 32)).cell? ⟨H, 1, none⟩ = some (.int .i64 t.base) := (e0.alloc _).cell 1
      have A2 : (w1.alloc (.cells #[.slice none 0 0, .int .i64 0] 32)).cell? ⟨C, 3, none⟩ = some (.slice p1 pn p2) := (hst1.box.alloc _).cell 3
      have hp1 : (pn : Int) < (pn : Int) + 1 := by omega
      have hp3 : (0 : Int) ≤ (pn : Int) := by omega
      have hlen9 : ps.length + 1 ≤ 2000000 := by omega
      have hHn : (Value.slice p1 pn p2).ownBlock ≠ some H := fun e => by have := hT H (turns_mem.2 (.inr e)); omega
      have hp2 : ∀ k ∈ turns C (.slice p1 pn p2), k < H := hT
      go_upto_region 3 with fail
      apply join3 (M := fun W g c => Pushed w1 W N C bs cv mv (.slice p1 pn p2) (.slice y1 n3 y2) ps t pn g c)
      case hmain =>
        intro HS
        go_region_law (first | (refine step_append_types rfl _ _ 30 rfl N 32 i0 _ Try.underlying30 hi hz0 hz1 hz2 rfl (.slice p1 pn p2) ps rfl (by first | exact HST1.out.row.alloc _ | exact (HST1.out.row.drew).alloc _ | exact HST1.out.row) okT [zT] (.slice (some ⟨w1.heap.size, 0, none⟩) 1 1) rfl (by first | exact (holds_zT _ _ rfl _).drew | exact holds_zT _ _ rfl _) hlen9 (by first | (simp; omega) | omega) ?_; intro v2 w2 qs hqs hkq hown2 hgr2 hat2; obtain ⟨s0, hqs2⟩ := one_of hqs; subst hqs2; obtain ⟨g9, c9, e9, hNg, hgl, k9a, k9b, f9a, f9b⟩ := row_last hpn hown2; subst e9; have bC2 : Blk w2 C 98 #[.int .i64 bs, cv, mv, .slice p1 pn p2] := (by first | exact (HST1.out.box.alloc _).kept hgr2 (fun e => hCn e.symm) | exact (HST1.out.box.drew.alloc _).kept hgr2 (fun e => hCn e.symm)); have bH2 : Blk w2 H 32 #[.slice y1 n3 y2, .int .i64 t.base] := (by first | exact (e0.alloc _).kept hgr2 (fun e => hHn e.symm) | exact (e0.drew.alloc _).kept hgr2 (fun e => hHn e.symm)); have hgC : g9 ≠ C := (fun e => row_other hown2 bC2 (by decide) (by rw [e]; rfl)); have hCg : C ≠ g9 := (fun e => hgC e.symm); have u9 := bC2.cell 3; have v9 := bC2.frozen 3; have w9a := bH2.cell 0; have w9b := bH2.cell 1))
        all_goals
          have HGR : (w1.alloc (Obj.cells #[.slice none 0 0, .int .i64 0] 32)).grownBy w2 (Value.slice p1 pn p2).ownBlock := ⟨hgr2.os, hgr2.tape, hgr2.output, hgr2.size, hgr2.block⟩
          first
            | (have HM := pushed _ HST1.out hkt hpn hown2 HGR hat2 hNg hgC bC2 (W := ((w2.setCell ⟨g9, pn * 2, none⟩ (.slice y1 n3 y2)).setCell ⟨g9, pn * 2 + 1, none⟩ (.int .i64 t.base)).setCell ⟨C, 3, none⟩ (.slice (some ⟨g9, 0, none⟩) (pn + 1) c9)) (.inl rfl); generalize ((w2.setCell ⟨g9, pn * 2, none⟩ (.slice y1 n3 y2)).setCell ⟨g9, pn * 2 + 1, none⟩ (.int .i64 t.base)).setCell ⟨C, 3, none⟩ (.slice (some ⟨g9, 0, none⟩) (pn + 1) c9) = W3 at HM ⊢; exact HS _ _ _ HM)
            | (have HM := pushed _ HST1.out hkt hpn hown2 HGR hat2 hNg hgC bC2 (W := ((w2.setCell ⟨C, 3, none⟩ (.slice (some ⟨g9, 0, none⟩) (pn + 1) c9)).setCell ⟨g9, pn * 2, none⟩ (.slice y1 n3 y2)).setCell ⟨g9, pn * 2 + 1, none⟩ (.int .i64 t.base)) (.inr rfl); generalize ((w2.setCell ⟨C, 3, none⟩ (.slice (some ⟨g9, 0, none⟩) (pn + 1) c9)).setCell ⟨g9, pn * 2, none⟩ (.slice y1 n3 y2)).setCell ⟨g9, pn * 2 + 1, none⟩ (.int .i64 t.base) = W3 at HM ⊢; exact HS _ _ _ HM)
      case hside =>
      intro W3 g c hM
      try dsimp only
      have hst3 := hM.stk
      have hO3 : Only (turns C (.slice p1 pn p2)) w W3 := hO1.trans hM.only
      have s0 := e0.only hM.only (hno _ (by omega))
      have s1 := e1.only hM.only (hno _ (by omega))
      have s2 := e2.only hM.only (hno _ (by omega))
      have hkp : ∀ b, b < w.heap.size → b < N → W3.heap[b]? = w.heap[b]? ∧ b < N := fun b hl hn => ⟨hO3.block b hl (fun h => by have := hG b h; omega), hn⟩
      have hps3 : ∀ p ∈ ps ++ [((.slice y1 n3 y2 : Value), t)], p.2.size ≤ 1000 := fun p hp => by
        rcases List.mem_append.1 hp with hp | hp
        · exact hps p hp
        · rw [List.mem_singleton.1 hp]; exact htq
      have hcall := hI N C (ps ++ [((.slice y1 n3 y2 : Value), t)]) bs cv mv (.slice (some ⟨g, 0, none⟩) (pn + 1) c) _ _ W3 (hc.keep hkp) (hm.keep hkp) (hb.keep hkp) (hr.keep hkp) hst3 hps3 (by rw [List.length_append]; exact hlen)
      have hctx : (ps ++ [((.slice y1 n3 y2 : Value), t)]).map (·.2) = ps.map (·.2) ++ [t] := by simp
      rw [hctx] at hcall
      obtain ⟨⟨q1, t1⟩, hp1'⟩ : ∃ p, r.inf bs cs ms (ps.map (·.2) ++ [t]) = p := ⟨_, rfl⟩
      have hpl1 : t1.size ≤ 1000 := by have h9 := r.inf_eq bs cs ms (ps.map (·.2) ++ [t]); rw [hp1'] at h9; have h8 := finI_size (r.ofI bs cs ms (ps.map (·.2) ++ [t])); rw [← h9] at h8; exact h8
      simp only [hp1'] at hcall
      have HPE2 : Hid (lamI t [(q1, t1)] = P) := by show _ = _; rw [← HPE.out, hp1']
      have hkt3 := hkt.keep (w' := W3) (ok' := fun b => b < N) fun b hl hn => ⟨hM.only.block b hl (fun h => by have := hG b h; omega), hn⟩
      have hTg : ∀ k ∈ turns C (.slice (some ⟨g, 0, none⟩) (pn + 1) c), k ∈ turns C (.slice p1 pn p2) ∨ H + 1 + 1 + 1 ≤ k := fun k hk => by
        rcases turns_mem.1 hk with rfl | h
        · exact .inl HCT.out
        · have e9 : some g = some k := h
          injection e9 with e9
          rcases hM.own with h | h
          · exact .inl (turns_mem.2 (.inr (by rw [h, e9])))
          · right; have h9 : w1.heap.size ≤ g := h; omega
      have hno3 : ∀ k, k ∈ turns C (.slice (some ⟨g, 0, none⟩) (pn + 1) c) → k ≠ H + 1 + 1 ∧ k ≠ H + 1 ∧ k ≠ H := fun k hk => ⟨fun e => by rcases hTg k hk with h | h; exact hno _ (by omega) h; omega, fun e => by rcases hTg k hk with h | h; exact hno _ (by omega) h; omega, fun e => by rcases hTg k hk with h | h; exact hno _ (by omega) h; omega⟩
      have hNT : ∀ k ∈ turns C (.slice (some ⟨g, 0, none⟩) (pn + 1) c), N ≤ k := hst3.ge
      have c0 := s1.cell 0
      have c1 := s1.cell 1
      have c2 := s1.cell 2
      have c3 := s1.cell 3
      have c4 := s1.cell 4
      have HOWN : Hid _ := hM.own
      have hs3 := hM.only.size
      clear e0 e1 e2 u3 v3 hM hst3 A0 A1 A2 hkt hI HQ HP HPE hp1' hctx hps3 hkp hc hm hb hr hps HST1 hst1 hO1 hbw1
      have HM3 : Hid (w1.heap.size ≤ W3.heap.size) := hs3
      go_wp2_with fail
      refine hcall.mono ?_
      unfold FindP
      rintro e w4 ⟨a1, m1, e1, rfl, hO4, hyes, hno4⟩
      have HY : Hid _ := hyes
      have r0 := s0.only hO4 (fun h => (hno3 _ h).2.2 rfl)
      have r2 := s2.only hO4 (fun h => (hno3 _ h).1 rfl)
      have hO5 : Only (turns C (.slice p1 pn p2)) w w4 := hO3.then hO4 (fun k hk hl => (hTg k hk).elim id (fun h => by rw [HH.out] at hl; omega))
      have hkt4 := hkt3.keep (w' := w4) (ok' := okT) fun b hl hn => ⟨hO4.block b hl (fun h => by have := hNT b h; omega), trivial⟩
      have hs4 := hO4.size
      obtain ⟨X, hX⟩ : ∃ X, w4.heap.size = X := ⟨_, rfl⟩
      have hXH : H + 1 + 1 < X := by rw [← hX]; exact r2.lt
      obtain ⟨W5, hW5⟩ : ∃ W5, w4.alloc (.cells #[.slice a1 m1 e1, .int .i64 t1.base] 32) = W5 := ⟨_, rfl⟩
      have d0 : Blk W5 X 32 #[.slice a1 m1 e1, .int .i64 t1.base] := by rw [← hW5]; exact Blk.new' w4 X 32 _ hX
      have hba : Below w4.heap.size w4 W5 := by rw [← hW5]; exact (Below.refl _ _).alloc (Nat.le_refl _) _
      have d1 := r0.below hba r0.lt
      have d2 := r2.below hba r2.lt
      have hz5 : W5.heap.size = X + 1 := by rw [← hW5]; simp [hX]
      have hO6 : Only (turns C (.slice p1 pn p2)) w W5 := hO5.trans (Only.of_below' hba)
      have hkt5 := hkt4.bel hba
      have hkt5' := (hkt3.keep (w' := w4) (ok' := fun b => b < N) fun b hl hn => ⟨hO4.block b hl (fun h => by have := hNT b h; omega), hn⟩).bel hba
      have HW5 : Hid _ := hW5
      clear hcall c0 c1 c2 c3 c4 hyes hno4 hW5 r0 r2 s0 s1 s2 hkt3 hkt4 hO3 hO5
      go_upto_region 5 with fail
      rw [HW5.out]
      clear HW5
      by_cases h0 : q1 = 0
      · subst h0
        obtain ⟨xv1, hst4, hown4, hh4⟩ := HY.out rfl
        have hh5 := hh4.bel hba
        have hst5 := hst4.bel hba
        obtain ⟨ya, yc, hyx⟩ := row_shape hst5.row
        obtain ⟨n4, hn4⟩ : ∃ n, (ps ++ [((.slice y1 n3 y2 : Value), t)]).length = n := ⟨_, rfl⟩
        have hn5 : n4 = pn + 1 := by rw [← hn4]; simp [hpn]
        rw [hn4] at hyx
        subst hyx
        have hyc : n4 ≤ yc := by
          have hr9 := hst5.row
          rw [hn4] at hr9
          rcases hr9.2 with ⟨e1, _⟩ | ⟨g9, c9, _, e1, _, _, h9, _⟩
          · injection e1 with e2 e3 e4; omega
          · injection e1 with e2 e3 e4; omega
        have x3 := hst5.box.cell 3
        have y3 := hst5.box.frozen 3
        have v0 : (n4 : Int) - 1 = (pn : Int) := by omega
        have v1 : (pn : Int) ≤ (yc : Int) := by omega
        have v2 : (0 : Int) ≤ (pn : Int) := by omega
        have v4 : IntKind.i64.wrap (pn : Int) = (pn : Int) := by rw [IntKind.wrap_i64]; omega
        have HST5 : Hid _ := hst5
        have HOWN4 : Hid _ := hown4
        have HH5 : Hid _ := hh5
        have HN5 : Hid _ := hn5
        clear hst4 hst5 hown4 hh4 hh5 hn5 hyc
        go_upto_region 7 with fail
        go_still_tail 14, (by kernel_rfl)
        obtain ⟨wd, hwd⟩ : ∃ wd, W5.drew = wd := ⟨_, rfl⟩
        have hst6 : Stk wd N C bs cv mv (.slice ya n4 yc) (ps ++ [((.slice y1 n3 y2 : Value), t)]) := by rw [← hwd]; exact HST5.out.bel ((Below.refl _ _).drew)
        have hOd : Only (turns C (.slice p1 pn p2)) w wd := by rw [← hwd]; exact hO6.drew
        have hbd : Below W5.heap.size W5 wd := by rw [← hwd]; exact (Below.refl _ _).drew
        have hzd : wd.heap.size = W5.heap.size := by rw [← hwd]; rfl
        show wpList _ _ _ _ _ W5.drew
        rw [hwd]
        clear hwd x3 y3 hO6
        have hst9 := popped hst6 hpn
        obtain ⟨W9, hW9⟩ : ∃ W9, wd.setCell ⟨C, 3, none⟩ (.slice ya pn yc) = W9 := ⟨_, rfl⟩
        have hOs : Only [C] wd W9 := by rw [← hW9]; exact Only.set (B := C) (Only.refl [C] wd) (by simp) 3 _
        have hO9 : Only (turns C (.slice p1 pn p2)) w W9 := hOd.then hOs (fun x hx _ => by rw [List.mem_singleton.1 hx]; exact HCT.out)
        rw [hW9] at hst9
        have HW9 : Hid _ := hW9
        have x3 := hst6.box.cell 3
        have y3 := hst6.box.frozen 3
        have f0 := (d0.below hbd d0.lt).only hOs (by simp; omega)
        have f1 := (d1.below hbd d1.lt).only hOs (by simp; omega)
        have f2 := (d2.below hbd d2.lt).only hOs (by simp; omega)
        have hown9 : ∀ b, (Value.slice ya pn yc).ownBlock = some b → (Value.slice p1 pn p2).ownBlock = some b ∨ H + 1 + 1 + 1 ≤ b := fun b hb => by
          rw [own_same ya pn n4 yc] at hb
          rcases HOWN4.out b hb with h | h
          · have e9 : some g = some b := h
            injection e9 with e9
            subst e9
            rcases HOWN.out with h | h
            · exact .inl h
            · right; have h9 : w1.heap.size ≤ g := h; omega
          · right; have := HM3.out; omega
        have hT5 : ∀ b, (Value.slice ya pn yc).ownBlock = some b → b < W5.heap.size := fun b hb => by
          rw [own_same ya pn n4 yc] at hb
          exact (HST5.out.row.lt b hb).2
        have hh9 : Holds W9 okT t1.args (.slice a1 m1 e1) := ((HH5.out.bel hbd).keep fun b hb ho => ⟨hOs.block b hb (fun hm => by rw [List.mem_singleton.1 hm] at ho; have := ho.1; have := HM3.out; omega), trivial⟩)
        have hkt9 : Holds W9 okT t.args (.slice y1 n3 y2) := ((hkt5'.bel hbd).keep fun b hb ho => ⟨hOs.block b hb (fun hm => by rw [List.mem_singleton.1 hm] at ho; omega), trivial⟩)
        have hz9 : wd.heap.size ≤ W9.heap.size := hOs.size
        have HST9 : Hid _ := hst9
        clear hW9 hst9 hst6 hOd HST5 HOWN4 hkt5 hkt5' hOs HOWN
        go_upto_region 8 with fail
        rw [HW9.out]
        clear HW9 x3 y3
        have j0 := f0.cell 0
        have j1 := f0.cell 1
        have l0 := f1.cell 0
        have l1 := f1.cell 1
        have ksz : sizeL t1.args + sizeL [t] ≤ 1000000 := by have h8 := t1.size_eq; have h9 : sizeL [t] = t.size := (by simp [sizeL]); omega
        go_wp2_with fail
        refine (Arrow_calls t1 [t] okT _ _ _ (hh9.alloc _) (holds_one hkt9 rfl _) ksz).mono ?_
        rintro e wf ⟨v9, rfl, hv9, hbf⟩
        obtain ⟨va, vc, hvs, _⟩ := hv9.shape
        obtain ⟨vn, hvn⟩ : ∃ n, ([t] ++ t1.args).length = n := ⟨_, rfl⟩
        rw [hvn] at hvs
        subst hvs
        have hbg : Below W9.heap.size W9 wf := ((Below.refl _ W9).alloc (Nat.le_refl _) _).trans (hbf.mono (by simp))
        have hvf : Holds wf (fun b => W9.heap.size ≤ b) ([t] ++ t1.args) (.slice va vn vc) := hv9.mono fun b _ ho => by have h9 := ho; simp at h9; omega
        have hst10 := HST9.out.bel hbg
        have k2 := f2.below hbg f2.lt
        have hO10 : Only (turns C (.slice p1 pn p2)) w wf := hO9.trans (Only.of_below' hbg)
        have HP5 : Hid (P = (0, .mk ([t] ++ t1.args) t1.base)) := by show _ = _; rw [← HPE2.out]; rfl
        have hsf := hbg.size
        clear hbf hv9 f0 f1 f2 j0 j1 l0 l1 hO9
        have z0 := k2.cell 0
        have z1 := k2.cell 1
        have f0 := k2.frozen 0
        have f1 := k2.frozen 1
        have b5 := (k2.set 0 (.slice va vn vc)).set 1 (.int .i64 t1.base)
        have o5 : Only [H + 1 + 1] wf ((wf.setCell ⟨H + 1 + 1, 0, none⟩ (.slice va vn vc)).setCell ⟨H + 1 + 1, 1, none⟩ (.int .i64 t1.base)) := ((Only.refl _ _).set (by simp) 0 _).set (by simp) 1 _
        go_wp2
        generalize (wf.setCell ⟨H + 1 + 1, 0, none⟩ (.slice va vn vc)).setCell ⟨H + 1 + 1, 1, none⟩ (.int .i64 t1.base) = W5 at *
        have g0 : W5.cell? ⟨H + 1 + 1, 0, none⟩ = some (.slice va vn vc) := b5.cell 0
        have g1 : W5.cell? ⟨H + 1 + 1, 1, none⟩ = some (.int .i64 t1.base) := b5.cell 1
        exact bodyPost_ret (v := .tuple #[tv (.slice va vn vc) t1.base, .int .i64 0]) (by simp [results, Try.results92, go_sem, g0, g1]) rfl (by unfold FindP; rw [HP5.out]; exact ⟨va, vn, vc, rfl, hO10.then o5 (fun x hx hlt => by rw [List.mem_singleton.1 hx, HH.out] at hlt; omega), fun _ => ⟨_, hst10.only o5 (by simp; omega) (fun b hb hm => by rw [List.mem_singleton.1 hm] at hb; exact (hown9 _ hb).elim (fun h => hno _ (by omega) (turns_mem.2 (.inr h))) (fun h => by omega)) (fun k hk => by rw [List.mem_singleton.1 hk]; omega), fun b hb => (hown9 b hb).imp id (fun h => by rw [HH.out]; omega), hvf.keep fun b hb ho => ⟨o5.block b hb (by simp; omega), by rw [HH.out]; omega, fun e => by have := hT5 _ e; omega⟩⟩, fun h => absurd rfl h⟩)
      · have z0 : (q1 == 0) = false := by simp [h0]
        have z9 : (q1 != 0) = true := by simp [h0]
        have HPF : Hid (P = (q1, zT)) := by show _ = _; rw [← HPE2.out]; show (if q1 = 0 then _ else (q1, zT)) = _; rw [if_neg h0]
        have H0 : Hid (q1 ≠ 0) := h0
        clear h0
        have e0 := d2.cell 0
        have e1 := d2.cell 1
        have f0 := d2.frozen 0
        have f1 := d2.frozen 1
        have b5 := (d2.set 0 (.slice none 0 0)).set 1 (.int .i64 0)
        have o5 : Only [H + 1 + 1] W5 ((W5.setCell ⟨H + 1 + 1, 0, none⟩ (.slice none 0 0)).setCell ⟨H + 1 + 1, 1, none⟩ (.int .i64 0)) := ((Only.refl _ _).set (by simp) 0 _).set (by simp) 1 _
        go_wp2
        generalize (W5.setCell ⟨H + 1 + 1, 0, none⟩ (.slice none 0 0)).setCell ⟨H + 1 + 1, 1, none⟩ (.int .i64 0) = W6 at *
        have g0 : W6.cell? ⟨H + 1 + 1, 0, none⟩ = some (.slice none 0 0) := b5.cell 0
        have g1 : W6.cell? ⟨H + 1 + 1, 1, none⟩ = some (.int .i64 0) := b5.cell 1
        exact bodyPost_ret (v := .tuple #[tv (.slice none 0 0) 0, .int .i64 q1]) (by simp [results, Try.results92, go_sem, g0, g1]) rfl (by unfold FindP; rw [HPF.out]; exact ⟨none, 0, 0, rfl, hO6.then o5 (fun x hx hlt => by rw [List.mem_singleton.1 hx, HH.out] at hlt; omega), fun h => absurd h H0.out, fun _ => ⟨rfl, rfl⟩⟩)

end Go.Proofs.Ytckagmagjogmnaa

namespace Go.Proofs.Ytckagmagjogmnaa
open Go Go.RowKit

theorem infL_mem {bs : Int} {cs ms ctx : List Ty} {l : List Rw} {p : Int × Ty} (h : p ∈ infL bs cs ms ctx l) : p.2.size ≤ 1000 := by
  induction l with
  | nil => cases h
  | cons u l ih =>
    unfold infL at h
    rcases List.mem_cons.1 h with rfl | h
    · exact u.inf_size bs cs ms ctx
    · exact ih h
theorem lamI_size {t : Ty} (ht : t.size ≤ 1000) {l : List (Int × Ty)} (hl : ∀ p ∈ l, p.2.size ≤ 1000) : (lamI t l).2.size ≤ 900000 := by
  unfold lamI
  split
  · rename_i p
    have h1 := hl p (by simp)
    have h2 := p.2.size_eq
    split
    · show (Ty.mk (t :: p.2.args) p.2.base).size ≤ 900000
      rw [Ty.size_eq]
      show 1 + (t.size + sizeL p.2.args) ≤ 900000
      omega
    · rw [zT_size]; omega
  · rw [zT_size]; omega
theorem appT_size {f a : Ty} (hf : f.size ≤ 1000) : (appT f a).2.size ≤ 900000 := by
  unfold appT
  split
  · rw [zT_size]; omega
  · rename_i x r e
    split
    · show (Ty.mk r f.base).size ≤ 900000
      rw [Ty.size_eq]
      show 1 + sizeL r ≤ 900000
      have h2 := f.size_eq
      rw [e] at h2
      have h3 : sizeL (x :: r) = x.size + sizeL r := rfl
      omega
    · rw [zT_size]; omega
theorem appI_size {l : List (Int × Ty)} (hl : ∀ p ∈ l, p.2.size ≤ 1000) : (appI l).2.size ≤ 900000 := by
  unfold appI
  split
  · rename_i f a
    have h1 := hl f (by simp)
    split
    · split
      · exact appT_size h1
      · rw [zT_size]; omega
    · rw [zT_size]; omega
  · rw [zT_size]; omega
theorem ofI_size {cs ms : List Ty} (hcs : sizeL cs ≤ 900000) (hms : sizeL ms ≤ 900000) (r : Rw) (ctx : List Ty) (bs : Int) (hx : ∀ u ∈ ctx, u.size ≤ 1000) : (r.ofI bs cs ms ctx).2.size ≤ 900000 := by
  unfold Rw.ofI
  split
  · split
    · rename_i h
      exact lamI_size (by unfold rightB fewB at h; simp at h; exact h.1.1) fun p hp => infL_mem hp
    · rw [zT_size]; omega
  · split
    · exact appI_size fun p hp => infL_mem hp
    · unfold headI
      split
      · rw [zT_size]; omega
      · rename_i h e
        show h.size ≤ 900000
        rcases pickA_mem e with h1 | h1 | h1
        · have := size_mem h1; omega
        · have := size_mem h1; omega
        · have := hx _ h1; omega
mutual
/-- all its types are of a size that can be gone through -/
def Rw.lit : Rw → Prop
  | .mk _ t _ l => t.size ≤ 900000 ∧ litR l
def litR : List Rw → Prop
  | [] => True
  | t :: r => t.lit ∧ litR r
end
theorem Rw.lit_eq (t : Rw) : t.lit = (t.ty.size ≤ 900000 ∧ litR t.kids) := by cases t; rfl
theorem litR_iff (l : List Rw) : litR l ↔ ∀ t ∈ l, t.lit := by
  induction l with
  | nil => simp [litR]
  | cons t l ih => simp [litR, ih]
theorem Rw.lit_of_total (t : Rw) : t.total ≤ 900000 → t.lit := by
  induction t using Rw.ind with
  | h t ih =>
    intro h
    have h1 := t.total_eq
    rw [t.lit_eq, litR_iff]
    exact ⟨by omega, fun u hu => ih u hu (by have := rtotal_mem hu; omega)⟩
theorem find_all {cs ms : List Ty} (hcs : sizeL cs ≤ 900000) (hms : sizeL ms ≤ 900000) (r : Rw) : r.shaped = true → r.rng → r.lit → FindAt 54 cs ms (fun ctx bs => r.inf bs cs ms ctx) r := by
  induction r using Rw.ind with
  | h r ih =>
  intro hs hrg htot
  rw [r.shaped_eq, Bool.and_eq_true] at hs
  rw [r.rng_eq] at hrg
  rw [r.lit_eq, litR_iff] at htot
  have hk : ∀ u ∈ r.kids, FindAt 54 cs ms (fun ctx bs => u.inf bs cs ms ctx) u := fun u hu => ih u hu ((shapedR_iff _).1 hs.2 u hu) (rngR_mem hrg.2.2 hu) (htot.2 u hu)
  exact find_calls' cs ms r (fun ctx bs hx => ofI_size hcs hms r ctx bs hx) (of_calls cs ms r hs.1 (by omega) (by omega) hrg.2.1.2 hk (fun u hu => lam_calls cs ms r.ty u htot.1 (hk u hu)))

/-- What Infer tells. -/
def Rw.infer (bs : Int) (cs ms ctx : List Ty) (r : Rw) : Int × Ty := if r.right then r.inf bs cs ms ctx else (1, zT)
def InfTold (p : Int × Ty) (w : World) (e : Ending) (w' : World) : Prop :=
  ∃ a n c, e = .returned (.tuple #[tv (.slice a n c) p.2.base, .int .i64 p.1]) ∧ Holds w' (fun b => w.heap.size ≤ b) p.2.args (.slice a n c) ∧ Below w.heap.size w w'

set_option maxRecDepth 100000 in
set_option maxHeartbeats 1600000 in
theorem InferD_calls (cs ms ctx : List Ty) (r : Rw) (bs : Int) (cv mv xv sb sr : Value) (w : World) (hc : Holds w okT cs cv) (hm : Holds w okT ms mv) (hx : Holds w okT ctx xv) (hb : Holds w okT r.ty.args sb) (hr : HoldsR w okT r.kids sr) (hcs : sizeL cs ≤ 900000) (hms : sizeL ms ≤ 900000) (hxs : ∀ u ∈ ctx, u.size ≤ 1000) (hrg : r.rng) (htot : r.lit) (hsz9 : r.size ≤ 100000000) (hlen : ctx.length + r.depth ≤ 900) :
    Calls Try.prog 25 #[wov bs cv mv, xv, rwv r.kind sb r.ty.base r.idx sr] w (InfTold (r.infer bs cs ms ctx) w) := by
  have hfa := find_all hcs hms r
  obtain ⟨c1, c2, rfl, _⟩ := hc.shape
  obtain ⟨m1, m2, rfl, _⟩ := hm.shape
  obtain ⟨a1, a2, rfl, _⟩ := hx.shape
  obtain ⟨x1, x2, rfl, _⟩ := hb.shape
  obtain ⟨x3, x4, rfl, _⟩ := hr.shape
  obtain ⟨N, hN⟩ : ∃ N, w.heap.size = N := ⟨_, rfl⟩
  have HN : Hid (w.heap.size = N) := hN
  obtain ⟨P, hP⟩ : ∃ P, r.infer bs cs ms ctx = P := ⟨_, rfl⟩
  rw [hP]
  have HP : Hid ((if r.right = true then r.inf bs cs ms ctx else ((1 : Int), zT)) = P) := hP
  have hshape : r.right = true → r.shaped = true := fun h => by unfold Rw.right at h; simp at h; exact h.1.1
  have hc0 : Holds w (fun b => b < N) cs _ := hc.mono fun b hb _ => hN ▸ hb
  have hm0 : Holds w (fun b => b < N) ms _ := hm.mono fun b hb _ => hN ▸ hb
  have hb0 : Holds w (fun b => b < N) r.ty.args _ := hb.mono fun b hb _ => hN ▸ hb
  have hr0 : HoldsR w (fun b => b < N) r.kids _ := hr.mono fun b hb _ => hN ▸ hb
  have hx0 : Holds w (fun b => b < N) ctx _ := hx.mono fun b hb _ => hN ▸ hb
  have k11 := fun cur (h : Below N w cur) => RightR_calls r okT (.slice x1 r.ty.args.length x2) (.slice x3 r.kids.length x4) cur (hb.bel (hN ▸ h)) (hr.bel (hN ▸ h)) (by omega)
  have k53 := fun cur (h : Below N w cur) => CloneTy_calls ctx (fun b => b < N) (.slice a1 ctx.length a2) cur (hx0.belN (fun b h => h) h) (by omega)
  have k54 := fun (hs : r.shaped = true) C (ps : List (Value × Ty)) (hps : ps.map (·.2) = ctx) v cur (h : Below N w cur) (hst : Stk cur N C bs (.slice c1 cs.length c2) (.slice m1 ms.length m2) v ps) => hfa hs hrg htot N C ps bs (.slice c1 cs.length c2) (.slice m1 ms.length m2) v (.slice x1 r.ty.args.length x2) (.slice x3 r.kids.length x4) cur
    (hc0.belN (fun b h => h) h) (hm0.belN (fun b h => h) h) (hb0.belN (fun b h => h) h) (hr0.keep (ok' := fun b => b < N) fun b _ ho => ⟨h.block b ho, ho⟩) hst (fun p hp => hxs _ (by rw [← hps]; exact List.mem_map_of_mem hp)) (by rw [← hps, List.length_map] at hlen; exact hlen)
  obtain ⟨q, hq⟩ : ∃ q, r.right = q := ⟨_, rfl⟩
  rw [hq] at HP hshape
  simp only [hq] at k11
  clear hc hm hx hb hr hc0 hm0 hb0 hr0 hx0 hq hP hsz9 hlen htot hrg hxs hfa hcs hms
  generalize cs.length = cn at *
  generalize ms.length = mn at *
  generalize ctx.length = xn at *
  generalize r.ty.args.length = bn at *
  generalize r.kids.length = an at *
  obtain ⟨W0, hW0⟩ : ∃ W0, ((w.alloc (.cells #[.int .i64 bs, .slice c1 cn c2, .slice m1 mn m2] 57)).alloc (.cells #[.int .i64 r.kind, .slice x1 bn x2, .int .i64 r.ty.base, .int .i64 r.idx, .slice x3 an x4] 35)).alloc (.cells #[.slice none 0 0, .int .i64 0] 32) = W0 := ⟨_, rfl⟩
  have b0 : Blk W0 N 57 #[.int .i64 bs, .slice c1 cn c2, .slice m1 mn m2] := by rw [← hW0]; exact ((Blk.new' w N 57 _ hN).alloc _).alloc _
  have b1 : Blk W0 (N + 1) 35 #[.int .i64 r.kind, .slice x1 bn x2, .int .i64 r.ty.base, .int .i64 r.idx, .slice x3 an x4] := by rw [← hW0]; exact (Blk.new' _ (N + 1) 35 _ (by simp [hN])).alloc _
  have b2 : Blk W0 (N + 1 + 1) 32 #[.slice none 0 0, .int .i64 0] := by rw [← hW0]; exact Blk.new' _ (N + 1 + 1) 32 _ (by simp [hN])
  have bl0 : Below N w W0 := by rw [← hW0]; exact (((Below.refl N w).alloc (by omega) _).alloc (by simp; omega) _).alloc (by simp; omega) _
  have HW : Hid _ := hW0
  have c0 := b1.cell 0
  have d1 := b1.cell 1
  have d2 := b1.cell 2
  have d3 := b1.cell 3
  have d4 := b1.cell 4
  have k1 := k11 _ bl0
  have hl0 : N + 1 + 1 < W0.heap.size := b2.lt
  clear hW0 k11
  go_enter Try.func25, Try.ntmps25
  go_upto_region 1 with fail
  rw [HW.out]
  clear HW
  go_wp2_with fail
  refine k1.mono ?_
  clear k1
  rintro e w1 ⟨rfl, hb1⟩
  have hB1 : Below N w w1 := bl0.trans (hb1.mono (by omega))
  have e0 := b0.below hb1 b0.lt
  have e1 := b1.below hb1 b1.lt
  have e2 := b2.below hb1 b2.lt
  clear b0 b1 b2 bl0 c0 d1 d2 d3 d4 hb1
  have hl1 : N + 1 + 1 < w1.heap.size := e2.lt
  cases q with
  | false =>
    have HPF : Hid (P = (1, zT)) := by show _ = _; rw [← HP.out]; rfl
    clear k53 k54 e0 e1
    have z0 := e2.cell 0
    have z1 := e2.cell 1
    have f0 := e2.frozen 0
    have f1 := e2.frozen 1
    have b5 := (e2.set 0 (.slice none 0 0)).set 1 (.int .i64 0)
    have o5 : Only [N + 1 + 1] w1 ((w1.setCell ⟨N + 1 + 1, 0, none⟩ (.slice none 0 0)).setCell ⟨N + 1 + 1, 1, none⟩ (.int .i64 0)) := ((Only.refl _ _).set (by simp) 0 _).set (by simp) 1 _
    go_wp2
    generalize (w1.setCell ⟨N + 1 + 1, 0, none⟩ (.slice none 0 0)).setCell ⟨N + 1 + 1, 1, none⟩ (.int .i64 0) = W5 at *
    have g0 : W5.cell? ⟨N + 1 + 1, 0, none⟩ = some (.slice none 0 0) := b5.cell 0
    have g1 : W5.cell? ⟨N + 1 + 1, 1, none⟩ = some (.int .i64 0) := b5.cell 1
    exact bodyPost_ret (v := .tuple #[tv (.slice none 0 0) 0, .int .i64 1]) (by simp [results, Try.results25, go_sem, g0, g1]) rfl (by unfold InfTold; rw [HPF.out]; exact ⟨none, 0, 0, rfl, Holds.nil _ _ _ _ (fun _ => rfl), HN.out ▸ (hB1.trans ((Below.mono (o5.below (n := N) (by omega) (by simp; omega)) (by omega))))⟩)
  | true =>
  have HPT : Hid (r.inf bs cs ms ctx = P) := by show _ = _; rw [← HP.out]; rfl
  go_upto_region 3 with fail
  go_cut [8] (fun s9 wx => ∃ (C : Nat) (v : Value) (ps : List (Value × Ty)), s9 = .pointer (some ⟨C, 0, none⟩) ∧ w1.heap.size ≤ C ∧ Stk wx N C bs (.slice c1 cn c2) (.slice m1 mn m2) v ps ∧ (∀ k ∈ turns C v, w1.heap.size ≤ k) ∧ ps.map (·.2) = ctx ∧ Below w1.heap.size w1 wx)
  case first =>
    have c0 := e0.cell 0
    have c3 := e0.cell 1
    have c4 := e0.cell 2
    have hK : ∀ v, Cur w1 v → v.cell? ⟨N, 0, none⟩ = some (.int .i64 bs) ∧ v.cell? ⟨N, 1, none⟩ = some (.slice c1 cn c2) ∧ v.cell? ⟨N, 2, none⟩ = some (.slice m1 mn m2) := fun v hv => ⟨hv.cell c0, hv.cell c3, hv.cell c4⟩
    have k7 : ∀ cur, Cur w1 cur → Calls Try.prog 53 #[.slice a1 xn a2] cur fun e w' => ∃ ra rn rc ps, e = .returned (.slice ra rn rc) ∧ w'.ownsRow cur.heap.size 32 2 (.slice ra rn rc) ps.length (pcells ps) ∧ ps.map (·.2) = ctx ∧ (∀ p ∈ ps, Holds cur (fun b => b < N) p.2.args p.1) ∧ Below cur.heap.size cur w' ∧ Cur w1 w' := fun cur hcur =>
      (k53 cur (hB1.trans (hcur.mono (by omega)))).mono fun e w' ⟨v, ps, h1, h2, h3, h4, h5⟩ => by
        obtain ⟨ra, rc, rfl⟩ := row_shape h2
        exact ⟨ra, _, rc, ps, h1, h2, h3, h4, h5, hcur.then h5⟩
    have hZ : Blk (w1.alloc (.cells #[.int .i64 0, .slice none 0 0, .slice none 0 0, .slice none 0 0] 98)).drew w1.heap.size 98 #[.int .i64 0, .slice none 0 0, .slice none 0 0, .slice none 0 0] := Blk.new w1 98 _
    have hcur := Cur.refl w1
    have hzz : w1.heap.size ≤ w1.heap.size := Nat.le_refl _
    clear c0 c3 c4 k53 k54
    go_region_held3 (fun v => v.cell? ⟨N, 0, none⟩ = some (.int .i64 bs) ∧ v.cell? ⟨N, 1, none⟩ = some (.slice c1 cn c2) ∧ v.cell? ⟨N, 2, none⟩ = some (.slice m1 mn m2))
      (first | with_reducible exact hK _ (by first | with_reducible assumption | (with_reducible refine Cur.drew ?_; assumption) | (with_reducible refine Cur.alloc ?_ _; assumption) | (with_reducible refine Cur.drew (Cur.alloc ?_ _); assumption) | (with_reducible refine Cur.alloc (Cur.drew ?_) _; assumption) | (with_reducible refine Cur.set (Cur.set (Cur.set (Cur.set ?_ hzz _ _) hzz _ _) hzz _ _) hzz _ _; assumption)))
      ((go_at_call 53; refine (k7 _ (by first | with_reducible assumption | (with_reducible refine Cur.drew ?_; assumption) | (with_reducible refine Cur.alloc ?_ _; assumption) | (with_reducible refine Cur.drew (Cur.alloc ?_ _); assumption) | (with_reducible refine Cur.alloc (Cur.drew ?_) _; assumption))).mono ?_; rintro e z1 ⟨ra, rn, rc, ps, rfl, hrw, hps, hkid, hz1, hcz1⟩; try (with_reducible have bR := hZ.below hz1 hZ.lt); try (have r0 := bR.cell 0; have r1 := bR.cell 1; have r2 := bR.cell 2; have r3 := bR.cell 3; have g0 := bR.frozen 0; have g1 := bR.frozen 1; have g2 := bR.frozen 2; have g3 := bR.frozen 3)))
    · have hs3 := Below.size hcz1
      have hkz : ∀ p ∈ ps, Holds z1 (fun b => b < N) p.2.args p.1 := fun p hp => (hkid p hp).bel hz1
      go_wp2_with fail
      go_meet
      exact ⟨z1.heap.size, .slice ra rn rc, ps, rfl, hs3, ⟨Blk.new z1 98 _, row_lower (hrw.alloc _) (show N ≤ w1.heap.size by omega), fun p hp => (hkz p hp).alloc _, by omega⟩, (fun k hk => (turns_mem.1 hk).elim (fun e9 => by omega) (fun e9 => (hrw.lt k e9).1)), hps, hcz1.alloc _⟩
    · have hkz : ∀ p ∈ ps, Holds z1 (fun b => b < N) p.2.args p.1 := fun p hp => (hkid p hp).bel hz1
      have hne := row_other hrw bR (by decide)
      have h9 := (((hcz1.set hzz 0 (.int .i64 bs)).set hzz 1 (.slice c1 cn c2)).set hzz 2 (.slice m1 mn m2)).set hzz 3 (.slice ra rn rc)
      have hO := (((Only.refl [w1.heap.size] z1).set (B := w1.heap.size) (by simp) 0 (.int .i64 bs)).set (B := w1.heap.size) (by simp) 1 (.slice c1 cn c2)).set (B := w1.heap.size) (by simp) 2 (.slice m1 mn m2) |>.set (B := w1.heap.size) (by simp) 3 (.slice ra rn rc)
      go_wp2_with fail
      go_meet
      exact ⟨w1.heap.size, .slice ra rn rc, ps, rfl, Nat.le_refl _, ⟨(((bR.set 0 _).set 1 _).set 2 _).set 3 _, row_onlyS (row_lower hrw (by show N ≤ (w1.alloc _).heap.size; simp; omega)) hO (fun b hb hm => hne (by rw [hb, List.mem_singleton.1 hm])), fun p hp => (hkz p hp).belN (fun b h => h) (hO.below (by have := Below.size hcz1; omega) (by simp; omega)), by omega⟩, (fun k hk => (turns_mem.1 hk).elim (fun e9 => by omega) (fun e9 => by have h8 := (hrw.lt k e9).1; have h7 : (w1.alloc (.cells #[.int .i64 0, .slice none 0 0, .slice none 0 0, .slice none 0 0] 98)).heap.size ≤ k := h8; simp at h7; omega)), hps, h9⟩
  case rest =>
  obtain ⟨C, v, ps, rfl, hCw, hst, hnew, hps, hbc⟩ := hcut
  have hBc : Below N w wc := hB1.trans (hbc.mono (by omega))
  have f1 := e1.below hbc e1.lt
  have f2 := e2.below hbc e2.lt
  have c0 := f1.cell 0
  have d1 := f1.cell 1
  have d2 := f1.cell 2
  have d3 := f1.cell 3
  have d4 := f1.cell 4
  have k2 := k54 (hshape (by trivial)) C ps hps v wc hBc hst
  have hlowC : ∀ k ∈ turns C v, N ≤ k := fun k hk => by have := hnew k hk; omega
  have hNc : N ≤ wc.heap.size := by have := hst.box.lt; omega
  simp only [hps, HPT.out] at k2
  have hn2 : N + 1 + 1 ∉ turns C v := fun h => by have := hnew _ h; omega
  clear k53 k54 e0 e1 e2 hst
  go_wp2_with fail
  refine k2.mono ?_
  clear k2
  unfold FindP
  rintro e w2 ⟨ra, rn, rc, rfl, hO2, hyes, hno⟩
  have HY : Hid (Holds w2 (fun b => N ≤ b ∧ b ≠ N + 1 + 1) P.2.args (.slice ra rn rc)) := by
    by_cases h0 : P.1 = 0
    · obtain ⟨_, _, _, h3⟩ := hyes h0
      exact h3.mono fun b _ ho => ⟨by have := ho.1; omega, by have := ho.1; have := f2.lt; omega⟩
    · obtain ⟨h1, h2⟩ := hno h0
      cases h2
      rw [h1]
      exact Holds.nil _ _ _ _ (fun _ => rfl)
  have k9 := f2.only hO2 hn2
  have hB2 : Below N w w2 := hBc.trans (hO2.below hNc hlowC)
  have hl2 : N + 1 + 1 < w2.heap.size := k9.lt
  clear hyes hno f1 f2 c0 d1 d2 d3 d4 hO2
  have z0 := k9.cell 0
  have z1 := k9.cell 1
  have f0 := k9.frozen 0
  have f1 := k9.frozen 1
  have b5 := (k9.set 0 (.slice ra rn rc)).set 1 (.int .i64 P.2.base)
  have o5 : Only [N + 1 + 1] w2 ((w2.setCell ⟨N + 1 + 1, 0, none⟩ (.slice ra rn rc)).setCell ⟨N + 1 + 1, 1, none⟩ (.int .i64 P.2.base)) := ((Only.refl _ _).set (by simp) 0 _).set (by simp) 1 _
  go_wp2
  generalize (w2.setCell ⟨N + 1 + 1, 0, none⟩ (.slice ra rn rc)).setCell ⟨N + 1 + 1, 1, none⟩ (.int .i64 P.2.base) = W5 at *
  have g0 : W5.cell? ⟨N + 1 + 1, 0, none⟩ = some (.slice ra rn rc) := b5.cell 0
  have g1 : W5.cell? ⟨N + 1 + 1, 1, none⟩ = some (.int .i64 P.2.base) := b5.cell 1
  exact bodyPost_ret (v := .tuple #[tv (.slice ra rn rc) P.2.base, .int .i64 P.1]) (by simp [results, Try.results25, go_sem, g0, g1]) rfl (by unfold InfTold; exact ⟨ra, rn, rc, rfl, HY.out.keep fun b hb ho => ⟨o5.block b hb (by simp; exact ho.2), by rw [HN.out]; exact ho.1⟩, HN.out ▸ (hB2.trans (o5.below (n := N) (by omega) (by simp; omega)))⟩)

theorem Infer_calls (cs ms ctx : List Ty) (r : Rw) (bs : Int) (cv mv xv sb sr : Value) (w : World) (hc : Holds w okT cs cv) (hm : Holds w okT ms mv) (hx : Holds w okT ctx xv) (hb : Holds w okT r.ty.args sb) (hr : HoldsR w okT r.kids sr) (hcs : sizeL cs ≤ 900000) (hms : sizeL ms ≤ 900000) (hxs : ∀ u ∈ ctx, u.size ≤ 1000) (hrg : r.rng) (htot : r.total ≤ 900000) (hlen : ctx.length + r.size ≤ 900) :
    Calls Try.prog 25 #[wov bs cv mv, xv, rwv r.kind sb r.ty.base r.idx sr] w (InfTold (r.infer bs cs ms ctx) w) :=
  InferD_calls cs ms ctx r bs cv mv xv sb sr w hc hm hx hb hr hcs hms hxs hrg (r.lit_of_total (by omega)) (by omega) (by have := r.depth_le_size; omega)

end Go.Proofs.Ytckagmagjogmnaa

