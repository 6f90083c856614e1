/-
  ChkT: several texts in one file: Rng, ChkT.
-/
import Derived.Test.YtckagmagjogmnaaTm
import Derived.Test.YtckagmagjogmnaaHdTy
import Derived.Test.YtckagmagjogmnaaKnownR
import Derived.Test.YtckagmagjogmnaaHeadC
import Derived.Test.YtckagmagjogmnaaRightH
import Derived.Test.YtckagmagjogmnaaEqK
import Derived.Test.YtckagmagjogmnaaToT
import Derived.Deep.RegionHeld3
import Derived.StillTailTactics
import Derived.Test.YtckagmagjogmnaaCloneT
import Derived.Test.YtckagmagjogmnaaStk
namespace Go.Proofs.Ytckagmagjogmnaa

/-- A number that fits an int. -/
def fits (n : Int) : Prop := -9223372036854775808 ≤ n ∧ n ≤ 9223372036854775807
mutual
def Tm.rng : Tm → Prop
  | .mk _ k i l => (fits k ∧ fits i) ∧ rngT l
def rngT : List Tm → Prop
  | [] => True
  | t :: r => t.rng ∧ rngT r
end
theorem Tm.rng_eq (t : Tm) : t.rng ↔ (fits t.kind ∧ fits t.idx) ∧ rngT t.args := by cases t; exact Iff.rfl
theorem rngT_iff (l : List Tm) : rngT l ↔ ∀ t ∈ l, t.rng := by
  induction l with
  | nil => simp [rngT]
  | cons t r ih => simp [rngT, ih]
theorem rng_headsT (l : List Tm) (h : ∀ t ∈ l, t.rng → ∀ d b, ∀ p ∈ t.heads d b, fits p.kind ∧ fits p.idx) (hr : rngT l) (d b : Nat) : ∀ p ∈ headsT d b l, fits p.kind ∧ fits p.idx := by
  induction l with
  | nil => intro p hp; cases hp
  | cons t r ih =>
    intro p hp
    rcases List.mem_append.1 (show p ∈ t.heads d b ++ headsT d b r from hp) with h1 | h1
    · exact h t (by simp) hr.1 d b p h1
    · exact ih (fun u hu => h u (by simp [hu])) hr.2 p h1
theorem rng_heads (t : Tm) : t.rng → ∀ d b, ∀ p ∈ t.heads d b, fits p.kind ∧ fits p.idx := by
  induction t using Tm.ind with
  | h t ih =>
    intro hr d b p hp
    rw [t.rng_eq] at hr
    rw [t.heads_eq] at hp
    rcases List.mem_cons.1 hp with rfl | hp
    · exact hr.1
    · exact rng_headsT t.args ih hr.2 _ _ p hp
theorem around_headsT (l : List Tm) (h : ∀ t ∈ l, ∀ d b, ∀ p ∈ t.heads d b, p.around ≤ b + t.total) (d b : Nat) : ∀ p ∈ headsT d b l, p.around ≤ b + totalT l := by
  induction l with
  | nil => intro p hp; cases hp
  | cons t r ih =>
    intro p hp
    have ht : totalT (t :: r) = t.total + totalT r := rfl
    rcases List.mem_append.1 (show p ∈ t.heads d b ++ headsT d b r from hp) with h1 | h1
    · have := h t (by simp) d b p h1; omega
    · have := ih (fun u hu => h u (by simp [hu])) p h1; omega
theorem around_heads (t : Tm) : ∀ d b, ∀ p ∈ t.heads d b, p.around ≤ b + t.total := by
  induction t using Tm.ind with
  | h t ih =>
    intro d b p hp
    have hl := sizeL_length t.binds
    rw [t.heads_eq] at hp
    rw [t.total_eq]
    rcases List.mem_cons.1 hp with rfl | hp
    · show b + t.binds.length ≤ _
      omega
    · have := around_headsT t.args ih _ _ p hp
      omega

/-- A head as it is seen from outside of all binders around it, and whether it is loose. -/
def Hd.out (p : Hd) : Option Int := if p.kind = 0 ∧ (p.around : Int) ≤ p.idx then some (p.idx - p.around) else none
/-- What a head makes of the greatest loose index. -/
def Hd.lo (p : Hd) : Int := match p.out with
  | some i => min i 1000 + 1
  | none => 0
def lmax : List Hd → Int
  | [] => 0
  | p :: r => max p.lo (lmax r)
theorem Hd.lo_nonneg (p : Hd) : 0 ≤ p.lo ∧ p.lo ≤ 1001 := by
  unfold Hd.lo Hd.out
  by_cases h : p.kind = 0 ∧ (p.around : Int) ≤ p.idx
  · rw [if_pos h]; simp only; omega
  · rw [if_neg h]; simp only; omega
theorem lmax_nonneg (l : List Hd) : 0 ≤ lmax l ∧ lmax l ≤ 1001 := by
  induction l with
  | nil => simp [lmax]
  | cons p r ih => have := p.lo_nonneg; simp only [lmax]; omega
theorem lmax_append (a b : List Hd) : lmax (a ++ b) = max (lmax a) (lmax b) := by
  induction a with
  | nil => have := lmax_nonneg b; simp only [List.nil_append, lmax]; omega
  | cons p a ih => simp only [List.cons_append, lmax, ih]; omega
theorem lmax_snoc (a : List Hd) (p : Hd) : lmax (a ++ [p]) = max (lmax a) p.lo := by
  rw [lmax_append]
  have := p.lo_nonneg
  simp only [lmax]
  omega
def looseI (t : Tm) : Int := lmax (t.heads 1 0)

end Go.Proofs.Ytckagmagjogmnaa

namespace Go.Proofs.Ytckagmagjogmnaa
open Go Go.RowKit Go.Sort

end Go.Proofs.Ytckagmagjogmnaa

/-
  The contracts of the document's Right and Check.
-/
namespace Go.Proofs.Ytckagmagjogmnaa
open Go Go.RowKit Go.Sort

/-- What Check tells. -/
def chkI (cs ms ctx : List Ty) (t : Tm) (ty : Ty) : Int := if rightTB t then (if t.is cs ms ctx ty then 0 else 5) else 2

end Go.Proofs.Ytckagmagjogmnaa

/-
  The contract of the checker's is: whether a term is of a type, with one context for all that is within, as a stack.
-/
namespace Go.Proofs.Ytckagmagjogmnaa
open Go Go.RowKit Go.Sort

theorem row_onlyQ {w w' : World} {N : Nat} {e : TypeId} {v : Value} {n : Nat} {xs : List Value} {S : List Nat} (h : w.ownsRow N e 2 v n xs) (hk : Only S w w') (hn : ∀ b, v.ownBlock = some b → b ∉ S) : w'.ownsRow N e 2 v n xs := by
  refine ⟨h.1, ?_⟩
  rcases h.2 with h2 | ⟨g, cap, cur, rfl, hb, hg, rest⟩
  · exact .inl h2
  · refine .inr ⟨g, cap, cur, rfl, hb, ?_, rest⟩
    rw [hk.block g (Array.getElem?_eq_some_iff.1 hg).1 (hn g rfl)]
    exact hg
/-- THE STACK: c's box, and the row of its context. -/
structure StkQ (w : World) (N C : Nat) (bs : Int) (cv mv xv : Value) (ps : List (Value × Ty)) : Prop where
  box : Blk w C 109 #[.int .i64 bs, cv, mv, xv]
  row : w.ownsRow N 32 2 xv ps.length (pcells ps)
  kid : ∀ p ∈ ps, Holds w (fun b => b < N) p.2.args p.1
  low : N ≤ C

def IsAt (cs ms : List Ty) (t : Tm) : Prop := ∀ (N C : Nat) (ps : List (Value × Ty)) (ty : Ty) (bs : Int) (cv mv xv sb sr sy : Value) (w : World),
    Holds w (fun b => b < N) cs cv → Holds w (fun b => b < N) ms mv → Holds w (fun b => b < N) t.binds sb → HoldsT w (fun b => b < N) t.args sr → Holds w (fun b => b < N) ty.args sy →
    StkQ w N C bs cv mv xv ps → t.rng → ps.length + t.total ≤ 1000000 →
    Calls Try.prog 62 #[.pointer (some ⟨C, 0, none⟩), tmv sb t.kind t.idx sr, tv sy ty.base] w fun e w' => e = .returned (.bool (t.is cs ms (ps.map (·.2)) ty)) ∧ Only (turns C xv) w w' ∧
      (t.is cs ms (ps.map (·.2)) ty = true → ∃ xv', StkQ w' N C bs cv mv xv' ps ∧ ∀ b, xv'.ownBlock = some b → xv.ownBlock = some b ∨ w.heap.size ≤ b)

set_option maxRecDepth 100000 in
set_option maxHeartbeats 1600000 in
theorem is_calls (cs ms : List Ty) (t : Tm) : IsAt cs ms t := by
  induction t using Tm.ind with
  | h t ih =>
  intro N C ps ty bs cv mv xv sb sr sy w hc hm hb hr hy hst hrg hlt0
  obtain ⟨i0, hi, hz0, hz1, hz2⟩ := info_parts info29'
  have htot := t.total_eq
  have hlb := sizeL_length t.binds
  have hlr := totalT_length t.args
  rw [t.rng_eq] at hrg
  have hii := hrg.1.2.2
  have HRG : Hid (∀ u ∈ t.args, u.rng) := (rngT_iff _).1 hrg.2
  have HLT : Hid (∀ u ∈ t.args, ps.length + t.binds.length + u.total ≤ 1000000) := fun u hu => by have := total_mem hu; omega
  have HIH : Hid (∀ u ∈ t.args, IsAt cs ms u) := ih
  have HE : Hid _ := t.is_eq cs ms (ps.map (·.2)) ty
  obtain ⟨c1, c2, rfl, _⟩ := hc.shape
  obtain ⟨m1, m2, rfl, _⟩ := hm.shape
  obtain ⟨x1, x2, rfl, _⟩ := hb.shape
  obtain ⟨a, cap, rfl, _, hat⟩ := hr.shape
  have HA : Hid _ := hat
  obtain ⟨y1, y2, rfl, _⟩ := hy.shape
  obtain ⟨p1, p2, rfl⟩ := row_shape hst.row
  obtain ⟨r, hre⟩ : ∃ r, t.is cs ms (ps.map (·.2)) ty = r := ⟨_, rfl⟩
  have HE2 : Hid (t.is cs ms (ps.map (·.2)) ty = r) := hre
  rw [hre]
  obtain ⟨cn, hcn⟩ : ∃ n, cs.length = n := ⟨_, rfl⟩
  obtain ⟨mn, hmn⟩ : ∃ n, ms.length = n := ⟨_, rfl⟩
  obtain ⟨bn, hbn⟩ : ∃ n, t.binds.length = n := ⟨_, rfl⟩
  obtain ⟨yn, hyn⟩ : ∃ n, ty.args.length = n := ⟨_, rfl⟩
  obtain ⟨pn, hpn⟩ : ∃ n, ps.length = n := ⟨_, rfl⟩
  have HPN : Hid (ps.length = pn) := hpn
  have HBN : Hid (t.binds.length = bn) := hbn
  obtain ⟨H, hH⟩ : ∃ N, w.heap.size = N := ⟨_, rfl⟩
  rw [hH]
  have hst0 := hst
  rw [hcn] at hc
  rw [hmn] at hm
  rw [hbn] at hb hlb
  rw [hyn] at hy
  rw [hcn, hmn, hpn] at hst
  have hsb : sizeL t.binds ≤ 1000000 := by omega
  have htb : ∀ u ∈ t.binds, u.size ≤ 1000000 := fun u hu => by have := size_mem hu; omega
  have hCH : C < H := by rw [← hH]; exact hst.box.lt
  have hNC := hst.low
  obtain ⟨W0, hW0⟩ : ∃ W0, (w.alloc (.cells #[.slice x1 bn x2, .int .i64 t.kind, .int .i64 t.idx, .slice a t.args.length cap] 76)).alloc (.cells #[.slice y1 yn y2, .int .i64 ty.base] 32) = W0 := ⟨_, rfl⟩
  have b1 : Blk W0 H 76 #[.slice x1 bn x2, .int .i64 t.kind, .int .i64 t.idx, .slice a t.args.length cap] := by rw [← hW0]; exact (Blk.new' w H 76 _ hH).alloc _
  have b2 : Blk W0 (H + 1) 32 #[.slice y1 yn y2, .int .i64 ty.base] := by rw [← hW0]; exact Blk.new' _ (H + 1) 32 _ (by simp [hH])
  have bl0 : Below H w W0 := by rw [← hW0]; exact ((Below.refl H w).alloc (by omega) _).alloc (by simp; omega) _
  have hl0 : H + 1 < W0.heap.size := b2.lt
  have HW : Hid _ := hW0
  have e1 := b1.cell 0
  have e2 := b2.cell 0
  have k67 := EqualFunc_calls t.binds ty.args (fun b => b < N) _ _ W0 (hb.bel (hH ▸ bl0)) (hy.bel (hH ▸ bl0)) (by omega) (fun u hu => Equal_calls u (htb u hu))
  obtain ⟨s, hs⟩ : ∃ s, sameL t.binds ty.args = s := ⟨_, rfl⟩
  rw [hs] at k67
  have HS : Hid _ := hs
  clear hW0 hre hat hs hst0 htb
  rw [hcn, hmn, hpn, hbn, hyn]
  go_enter Try.func62, Try.ntmps62
  go_wp2_with fail
  rw [HW.out]
  clear HW
  refine k67.mono ?_
  rintro e w1 ⟨rfl, hb1⟩
  have hB1 : Below H w w1 := bl0.trans (hb1.mono (by omega))
  have d1 := b1.below hb1 b1.lt
  have d2 := b2.below hb1 b2.lt
  clear b1 b2 bl0 hb1 k67 e1 e2
  cases s with
  | false =>
    have HR : Hid (r = false) := by show _ = _; rw [← HE2.out, HE.out, HS.out]; rfl
    go_wp2
    go_ret
    exact ⟨ret_bool HR.out.symm, Only.of_below' (hH ▸ hB1), fun h => by rw [HR.out] at h; cases h⟩
  | true =>
  have hst1 : StkQ w1 N C bs (.slice c1 cn c2) (.slice m1 mn m2) (.slice p1 pn p2) ps := ⟨hst.box.below hB1 hCH, row_below hst.row (hH ▸ hB1), fun p hp => (hst.kid p hp).bel (hH ▸ hB1), hst.low⟩
  have hb1 := hb.bel (hH ▸ hB1)
  have hr1 := hr.bel (hH ▸ hB1)
  have q0 := hst1.box.cell 3
  have f0 := hst1.box.frozen 3
  have q1 := d1.cell 0
  have hlen : ps.length + t.binds.length ≤ 2000000 := by rw [hbn]; omega
  have hN1 : N ≤ w1.heap.size := by have := hst1.box.lt; omega
  have HST1 : Hid _ := hst1
  have hCn := row_other hst1.row hst1.box (by decide)
  go_upto_region 3 with fail
  go_region_law (refine step_append_types rfl _ _ 30 rfl N 32 i0 _ Try.underlying30 hi hz0 hz1 hz2 rfl (.slice p1 pn p2) ps rfl (HST1.out.row.drew) (fun b => b < N) t.binds (.slice x1 bn x2) rfl hb1.drew hlen hN1 ?_; intro v2 w2 qs hqs hkq hown2 hgr2 hat2; obtain ⟨n3, hn3⟩ : ∃ n, (ps ++ qs).length = n := ⟨_, rfl⟩; have HN3 : Hid ((ps ++ qs).length = n3) := hn3; rw [hn3] at hown2; clear hn3; obtain ⟨p3, p4, hv2⟩ := row_shape hown2; subst hv2; have bC2 := HST1.out.box.drew.kept hgr2 (fun e => hCn e.symm); have q2 := bC2.cell 3; have f2 := bC2.frozen 3)
  all_goals
    have hB12 : Below N w1 w2 := (Below.refl N w1).drew.grown hgr2 hN1 (fun j hj => (HST1.out.row.lt j hj).1)
    have hCn2 := row_other hown2 bC2 (by decide)
    have hB13 : Below N w1 (w2.setCell ⟨C, 3, none⟩ (.slice p3 n3 p4)) := bset hB12 hNC _
    have hrl := HST1.out.row.lt
    have hrH : ∀ b, (Value.slice p1 pn p2).ownBlock = some b → b < H := fun b h => by rw [← hH]; exact (hst.row.lt b h).2
    have hO3 : Only (turns C (.slice p1 pn p2)) w (w2.setCell ⟨C, 3, none⟩ (.slice p3 n3 p4)) := (Only.of_below' (hH ▸ hB1)).trans (Only.set (S := turns C (.slice p1 pn p2)) (a := w1) (w := w2) ⟨hgr2.os, hgr2.tape, hgr2.output, hgr2.size, fun k hk hn => hgr2.block k hk (fun e => hn (turns_mem.2 (.inr e.symm)))⟩ (turns_mem.2 (.inl rfl)) 3 _)
    have hst3 : StkQ (w2.setCell ⟨C, 3, none⟩ (.slice p3 n3 p4)) N C bs (.slice c1 cn c2) (.slice m1 mn m2) (.slice p3 n3 p4) (ps ++ qs) := by
      refine ⟨bC2.set 3 (.slice p3 n3 p4), ?_, fun p hp => ?_, hNC⟩
      · rw [HN3.out]
        exact row_onlyQ hown2 (Only.set (B := C) (Only.refl [C] w2) (by simp) 3 _) (fun b hb hm => hCn2 (by rw [hb, List.mem_singleton.1 hm]))
      · rcases List.mem_append.1 hp with hp | hp
        · exact (HST1.out.kid p hp).belN (fun b h => h) hB13
        · exact (hkq p hp).belN (fun b h => h) (show RowKit.Below N w1.drew _ from ⟨hB13.os, hB13.tape, hB13.output, hB13.size, hB13.block⟩)
    have hg3 : ∀ b, (Value.slice p3 n3 p4).ownBlock = some b → (Value.slice p1 pn p2).ownBlock = some b ∨ H + 1 < b := fun b hb => by
      rcases hat2 with h | h
      · exact .inl (h ▸ hb)
      · right
        rw [hb] at h
        have : b = w1.heap.size := by simpa using h
        have h9 := d2.lt
        omega
    have k1 : Blk (w2.setCell ⟨C, 3, none⟩ (.slice p3 n3 p4)) H 76 #[.slice x1 bn x2, .int .i64 t.kind, .int .i64 t.idx, .slice a t.args.length cap] := (d1.drew.kept hgr2 (fun e => by have := hrH H e.symm; omega)).other (by omega) 3 _
    have k2 : Blk (w2.setCell ⟨C, 3, none⟩ (.slice p3 n3 p4)) (H + 1) 32 #[.slice y1 yn y2, .int .i64 ty.base] := (d2.drew.kept hgr2 (fun e => by have := hrH (H + 1) e.symm; omega)).other (by omega) 3 _
    clear q0 f0 q1 q2 f2 bC2 hCn hCn2 hown2 hgr2 hat2 hkq d1 d2 hrl hb1 hr1 hst1 HST1 hB12
    obtain ⟨w3, hw3⟩ : ∃ w3, w2.setCell ⟨C, 3, none⟩ (.slice p3 n3 p4) = w3 := ⟨_, rfl⟩
    have HW3 : Hid _ := hw3
    rw [hw3] at hB13 hO3 hst3 k1 k2
    clear hw3
    have hb3 := (hb.bel (hH ▸ hB1)).belN (fun b h => h) hB13
    have hr3 := hr.bel (hH ▸ hB1)
    have hc3 := (hc.bel (hH ▸ hB1)).belN (fun b h => h) hB13
    have hm3 := (hm.bel (hH ▸ hB1)).belN (fun b h => h) hB13
    obtain ⟨pc, lc, ec, kc⟩ := hc3.lk
    obtain ⟨pm, lm, em, km⟩ := hm3.lk
    have hln3 : (ps ++ qs).length ≤ 1000000 := by
      have hql : qs.length = t.binds.length := by rw [← hqs, List.length_map]
      rw [List.length_append, hql]; omega
    have hctx : (ps ++ qs).map (·.2) = ps.map (·.2) ++ t.binds := by rw [List.map_append, hqs]
    have HCTX : Hid _ := hctx
    have k73 : ∀ cur, Cur w3 cur → Calls Try.prog 59 #[wov bs (.slice c1 cn c2) (.slice m1 mn m2), .slice p3 n3 p4, hv t.kind t.idx] cur fun e w' => ∃ a n c b o, e = .returned (.tuple #[tv (.slice a n c) b, .bool o]) ∧ ((pickA cs ms (ps.map (·.2) ++ t.binds) t.kind t.idx = none ∧ o = false) ∨ ∃ h, pickA cs ms (ps.map (·.2) ++ t.binds) t.kind t.idx = some h ∧ b = h.base ∧ o = true ∧ Holds w3 (fun b => b < N) h.args (.slice a n c)) ∧ Below cur.heap.size cur w' ∧ Cur w3 w' := fun cur hcur =>
      (find_calls bs t.kind t.idx pc pm (ps ++ qs) _ _ _ cur (lc.bel hcur) (lm.bel hcur) ((lk_row hst3.row).bel hcur) (kids_slice kc) (kids_slice km) (kids_slice hst3.kid) hln3 hii).mono fun e w' h => by
        have hf := found_of t.kind t.idx kc km hst3.kid h.1
        rw [ec, em, hctx] at hf
        rcases hf with ⟨h1, h2⟩ | ⟨hh, a', n', c', h1, h2, h3⟩
        · exact ⟨none, 0, 0, 0, false, h2, .inl ⟨h1, rfl⟩, h.2, hcur.then h.2⟩
        · exact ⟨a', n', c', hh.base, true, h3, .inr ⟨hh, h1, rfl, rfl, h2⟩, h.2, hcur.then h.2⟩
    have hCl := hst3.box.lt
    have HST3 : Hid _ := hst3
    clear hctx ec em lc lm kc km hst3
    go_upto_region 4 with fail
    rw [HW3.out]
    clear HW3
    go_cut [7, 8] (fun s7 s8 wx => ∃ (Y : Nat) (a' : Option Addr) (n' c' : Nat) (b' : Int) (o' : Bool), s7 = .pointer (some ⟨Y, 0, none⟩) ∧ s8 = .bool o' ∧ w3.heap.size ≤ Y ∧ Blk wx Y 32 #[.slice a' n' c', .int .i64 b'] ∧ ((pickA cs ms (ps.map (·.2) ++ t.binds) t.kind t.idx = none ∧ o' = false) ∨ ∃ h, pickA cs ms (ps.map (·.2) ++ t.binds) t.kind t.idx = some h ∧ b' = h.base ∧ o' = true ∧ Holds w3 (fun b => b < N) h.args (.slice a' n' c')) ∧ Below w3.heap.size w3 wx)
    case first =>
      have c0 := HST3.out.box.cell 0
      have c1' := HST3.out.box.cell 1
      have c2' := HST3.out.box.cell 2
      have c3 := HST3.out.box.cell 3
      have c4 := k1.cell 1
      have c5 := k1.cell 2
      have hK : ∀ v, Cur w3 v → v.cell? ⟨C, 0, none⟩ = some (.int .i64 bs) ∧ v.cell? ⟨C, 1, none⟩ = some (.slice c1 cn c2) ∧ v.cell? ⟨C, 2, none⟩ = some (.slice m1 mn m2) ∧ v.cell? ⟨C, 3, none⟩ = some (.slice p3 n3 p4) ∧ v.cell? ⟨H, 1, none⟩ = some (.int .i64 t.kind) ∧ v.cell? ⟨H, 2, none⟩ = some (.int .i64 t.idx) := fun v hv => ⟨hv.cell c0, hv.cell c1', hv.cell c2', hv.cell c3, hv.cell c4, hv.cell c5⟩
      have hZ : Blk (w3.alloc (.cells #[.slice none 0 0, .int .i64 0] 32)).drew w3.heap.size 32 #[.slice none 0 0, .int .i64 0] := Blk.new w3 32 _
      have hcur := Cur.refl w3
      clear c0 c1' c2' c3 c4 c5
      go_region_held3 (fun v => v.cell? ⟨C, 0, none⟩ = some (.int .i64 bs) ∧ v.cell? ⟨C, 1, none⟩ = some (.slice c1 cn c2) ∧ v.cell? ⟨C, 2, none⟩ = some (.slice m1 mn m2) ∧ v.cell? ⟨C, 3, none⟩ = some (.slice p3 n3 p4) ∧ v.cell? ⟨H, 1, none⟩ = some (.int .i64 t.kind) ∧ v.cell? ⟨H, 2, none⟩ = some (.int .i64 t.idx))
        (first | with_reducible exact hK _ (by first | with_reducible assumption | (with_reducible refine Cur.drew ?_; assumption) | (with_reducible refine Cur.alloc ?_ _; assumption) | (with_reducible refine Cur.drew (Cur.alloc ?_ _); assumption) | (with_reducible refine Cur.alloc (Cur.drew ?_) _; assumption) | (with_reducible refine Cur.set (Cur.set ?_ hzz _ _) hzz _ _; assumption)))
        ((go_at_call 59; refine (k73 _ (by first | with_reducible assumption | (with_reducible refine Cur.drew ?_; assumption) | (with_reducible refine Cur.alloc ?_ _; assumption) | (with_reducible refine Cur.drew (Cur.alloc ?_ _); assumption) | (with_reducible refine Cur.alloc (Cur.drew ?_) _; assumption))).mono ?_; rintro e z1 ⟨a', n', c', b', o', rfl, hfo, hz1, hcz1⟩; have hzz : w3.heap.size ≤ w3.heap.size := Nat.le_refl _; try (with_reducible have bR := hZ.below hz1 hZ.lt); try (have r0 := bR.cell 0; have r1 := bR.cell 1; have g0 := bR.frozen 0; have g1 := bR.frozen 1)))
      · have hs3 := Below.size hcz1
        go_wp2_with fail
        go_meet
        exact ⟨z1.heap.size, a', n', c', b', o', rfl, rfl, hs3, Blk.new z1 32 _, hfo, hcz1.alloc _⟩
      · go_wp2_with fail
        go_meet
        exact ⟨w3.heap.size, a', n', c', b', o', rfl, rfl, Nat.le_refl _, (bR.set 0 (.slice a' n' c')).set 1 (.int .i64 b'), hfo, (hcz1.set hzz 0 _).set hzz 1 _⟩
    case rest =>
    obtain ⟨Y, ha, hn, hcp, hbs, o', rfl, rfl, hwY, bY, hfo, hbc⟩ := hcut
    have hOc : Only (turns C (.slice p1 pn p2)) w wc := hO3.trans (Only.of_below' hbc)
    have j1 := k1.below hbc k1.lt
    have j2 := k2.below hbc k2.lt
    have hstc : StkQ wc N C bs (.slice c1 cn c2) (.slice m1 mn m2) (.slice p3 n3 p4) (ps ++ qs) := ⟨HST3.out.box.below hbc hCl, row_below HST3.out.row hbc, fun p hp => (HST3.out.kid p hp).bel hbc, hNC⟩
    have hrc : ∀ b, (Value.slice p3 n3 p4).ownBlock = some b → b < w3.heap.size := fun b h => (HST3.out.row.lt b h).2
    have hHw : H + 1 < w3.heap.size := k2.lt
    have HSTC : Hid _ := hstc
    have u1 := j2.cell 1
    have u2 := j1.cell 3
    have u3 := bY.cell 0
    have u4 := bY.cell 1
    clear k1 k2 hO3 k73 HST3 hstc
    rcases hfo with ⟨ho, rfl⟩ | ⟨h, ho, rfl, rfl, hh⟩
    · have HR : Hid (r = false) := by show _ = _; rw [← HE2.out, HE.out, HS.out, ho]; rfl
      go_wp2
      go_ret
      exact ⟨ret_bool HR.out.symm, hOc, fun h => by rw [HR.out] at h; cases h⟩
    · have HHN : Hid (hn = h.args.length) := by
        obtain ⟨_, _, e9, _⟩ := hh.shape
        cases e9; rfl
      have HO : Hid _ := ho
      clear ho
      by_cases hba : h.base = ty.base
      · have z1 : (h.base != ty.base) = false := by simp [hba]
        by_cases hle : hn = t.args.length
        · have z2 : ((hn : Int) != (t.args.length : Int)) = false := by simp [hle]
          have HR : Hid (r = isL cs ms (ps.map (·.2) ++ t.binds) t.args h.args) := by show _ = _; rw [← HE2.out, HE.out, HS.out, HO.out]; simp [hba, ← HHN.out, hle]
          have HLE : Hid (hn = t.args.length) := hle
          have hlr2 : t.args.length ≤ 1000000 := by omega
          have HH : Hid (Holds w3 (fun b => b < N) h.args (.slice ha hn hcp)) := hh
          clear hba hle hh
          have HOW0 : Hid (∀ b, (Value.slice p3 n3 p4).ownBlock = some b → b ≠ Y ∧ b ≠ H ∧ b ≠ H + 1 ∧ ((Value.slice p1 pn p2).ownBlock = some b ∨ H ≤ b)) := fun b hb => by
            have h1 := hrc b hb
            rcases hg3 b hb with h2 | h2
            · have h3 := hrH b h2
              exact ⟨by omega, by omega, by omega, .inl h2⟩
            · exact ⟨by omega, by omega, by omega, .inr (by omega)⟩
          go_wp2
          clear u1 u2 u3 u4
          have hHC : H ≤ w3.heap.size := by omega
          have hNH : N ≤ w.heap.size := by omega
          go_loopw [62] (fun i wr => ∃ (k : Nat) (xa : Option Addr) (xc : Nat), k ≤ t.args.length ∧ i = .int .i64 k ∧ Hid (IsUp cs ms (ps.map (·.2) ++ t.binds) t.args h.args k) ∧ Hid (StkQ wr N C bs (.slice c1 cn c2) (.slice m1 mn m2) (.slice xa n3 xc) (ps ++ qs)) ∧ Hid (∀ b, (Value.slice xa n3 xc).ownBlock = some b → b ≠ Y ∧ b ≠ H ∧ b ≠ H + 1 ∧ ((Value.slice p1 pn p2).ownBlock = some b ∨ H ≤ b)) ∧ Blk wr H 76 #[.slice x1 bn x2, .int .i64 t.kind, .int .i64 t.idx, .slice a t.args.length cap] ∧ Blk wr (H + 1) 32 #[.slice y1 yn y2, .int .i64 ty.base] ∧ Blk wr Y 32 #[.slice ha hn hcp, .int .i64 h.base] ∧ Only (turns C (.slice p1 pn p2)) w wr ∧ Below N w3 wr)
            (fun i _ => t.args.length - (intOf i).toNat)
          case atStart => exact ⟨0, p3, p4, Nat.zero_le _, rfl, fun _ _ _ h => by omega, HSTC.out, HOW0, j1, j2, bY, hOc, hbc.mono (by omega)⟩
          case round =>
            clear j1 j2 bY hOc hbc
            obtain ⟨k, xa, xc, hk, rfl, HF, HST, HOW, j1, j2, bY, hO, hB3⟩ := hrel
            have hbN : Below N w wr := hO.below hNH (fun k hk => by
              rcases turns_mem.1 hk with e | e
              · omega
              · exact (hst.row.lt k e).1)
            have hwr : Y < wr.heap.size := bY.lt
            by_cases hlt : k < t.args.length
            · obtain ⟨u, hu⟩ : ∃ u, t.args[k]? = some u := ⟨_, List.getElem?_eq_getElem hlt⟩
              obtain ⟨v, hv⟩ : ∃ v, h.args[k]? = some v := ⟨_, List.getElem?_eq_getElem (by rw [← HHN.out, HLE.out]; exact hlt)⟩
              obtain ⟨g, o, su, ru, rfl, hgN, hg, q0, q1, q2, q3, hsu, hru⟩ := HA.out k u hu
              obtain ⟨a9, c9, e9, _, hat9⟩ := HH.out.shape
              obtain ⟨g', o', sv, rfl, hgN', hg', r0, r1, hsv⟩ := hat9 k v hv
              obtain ⟨rfl, -, rfl⟩ : ha = some ⟨g', o', none⟩ ∧ hn = h.args.length ∧ hcp = c9 := by cases e9; exact ⟨rfl, rfl, rfl⟩
              have q0 := (cat hbN hgN).trans q0
              have q1 := (cat hbN hgN).trans q1
              have q2 := (cat hbN hgN).trans q2
              have q3 := (cat hbN hgN).trans q3
              have r0 := (cat hB3 hgN').trans r0
              have r1 := (cat hB3 hgN').trans r1
              have hum := List.mem_of_getElem? hu
              have v1 : (0 : Int) ≤ (k : Int) := by omega
              have v2 : (k : Int) < (t.args.length : Int) := by omega
              have v3 : (k : Int) < (hn : Int) := by have := HLE.out; omega
              have HU : Hid (t.args[k]? = some u) := hu
              have HV : Hid (h.args[k]? = some v) := hv
              clear hat9 e9 hu hv
              obtain ⟨s1, s2, hsue, _⟩ := hsu.shape
              obtain ⟨s3, s4, hrue, _⟩ := hru.shape
              obtain ⟨s5, s6, hsve, _⟩ := hsv.shape
              generalize u.binds.length = ubn at hsue
              generalize u.args.length = uan at hrue
              generalize v.args.length = van at hsve
              subst hsue
              subst hrue
              subst hsve
              obtain ⟨wa, hwa⟩ : ∃ wa, wr.alloc (.cells #[.slice s1 ubn s2, .int .i64 u.kind, .int .i64 u.idx, .slice s3 uan s4] 76) = wa := ⟨_, rfl⟩
              have hba : Below wr.heap.size wr wa := by rw [← hwa]; exact (Below.refl _ _).alloc (Nat.le_refl _) _
              obtain ⟨X, hX⟩ : ∃ X, wr.heap.size = X := ⟨_, rfl⟩
              have bX : Blk wa X 76 #[.slice s1 ubn s2, .int .i64 u.kind, .int .i64 u.idx, .slice s3 uan s4] := by rw [← hwa]; exact Blk.new' wr X 76 _ hX
              have HX : Hid _ := hX
              have i1 := j1.below hba j1.lt
              have i2 := j2.below hba j2.lt
              have iY := bY.below hba bY.lt
              have hsta : StkQ wa N C bs (.slice c1 cn c2) (.slice m1 mn m2) (.slice xa n3 xc) (ps ++ qs) := ⟨HST.out.box.below hba HST.out.box.lt, row_below HST.out.row hba, fun p hp => (HST.out.kid p hp).bel hba, hNC⟩
              have hxa := HST.out.row.lt
              have hba3 : Below N w3 wa := hB3.trans (hba.mono (by omega))
              have hbaN : Below N w wa := hbN.trans (hba.mono (by omega))
              have hOa : Only (turns C (.slice p1 pn p2)) w wa := hO.trans (Only.of_below' hba)
              have q4 := (cat hba (by omega)).trans r0
              have q5 := (cat hba (by omega)).trans r1
              have HWA : Hid _ := hwa
              have hcs := (hc.belN (fun b h => h) hbaN)
              have hms := (hm.belN (fun b h => h) hbaN)
              have hsua := (hsu.belN (fun b h => h) hbaN)
              have hrua := hru.keep (w' := wa) (ok' := fun b => b < N) fun b _ ho => ⟨hbaN.block b ho, ho⟩
              have hsva := (hsv.belN (fun b h => h) hba3)
              have hlen2 : (ps ++ qs).length + u.total ≤ 1000000 := by
                have := HLT.out u hum
                have hql : qs.length = t.binds.length := by rw [← hqs, List.length_map]
                rw [List.length_append, hql]; omega
              obtain ⟨rr, hrr⟩ : ∃ r, u.is cs ms (ps.map (·.2) ++ t.binds) v = r := ⟨_, rfl⟩
              have HR2 : Hid _ := hrr
              have k77 : ∀ cur, Cur wa cur → Calls Try.prog 62 #[.pointer (some ⟨C, 0, none⟩), tmv (.slice s1 ubn s2) u.kind u.idx (.slice s3 uan s4), tv (.slice s5 van s6) v.base] cur fun e w' => e = .returned (.bool rr) ∧ Only (turns C (.slice xa n3 xc)) cur w' ∧
                  (rr = true → ∃ xv', StkQ w' N C bs (.slice c1 cn c2) (.slice m1 mn m2) xv' (ps ++ qs) ∧ ∀ b, xv'.ownBlock = some b → (Value.slice xa n3 xc).ownBlock = some b ∨ cur.heap.size ≤ b) ∧
                  w'.cell? ⟨X, 0, none⟩ = some (.slice s1 ubn s2) ∧ w'.cell? ⟨X, 1, none⟩ = some (.int .i64 u.kind) ∧ w'.cell? ⟨X, 2, none⟩ = some (.int .i64 u.idx) ∧ w'.cell? ⟨X, 3, none⟩ = some (.slice s3 uan s4) ∧ w'.cell? ⟨Y, 0, none⟩ = some (.slice (some ⟨g', o', none⟩) hn hcp) ∧ w'.cell? ⟨g', o' + k * 2, none⟩ = some (.slice s5 van s6) ∧ w'.cell? ⟨g', o' + k * 2 + 1, none⟩ = some (.int .i64 v.base) := fun cur hcur => by
                have h9 := HIH.out u hum N C (ps ++ qs) v bs _ _ _ (.slice s1 ubn s2) (.slice s3 uan s4) (.slice s5 van s6) cur (hcs.bel hcur) (hms.bel hcur) (hsua.bel hcur) (hrua.bel hcur) (hsva.bel hcur) ⟨hsta.box.below hcur hsta.box.lt, row_below hsta.row hcur, fun p hp => (hsta.kid p hp).bel hcur, hNC⟩ (HRG.out u hum) hlen2
                rw [HCTX.out, hrr] at h9
                refine h9.mono fun e w' h => ⟨h.1, h.2.1, h.2.2, ?_⟩
                have hnt : ∀ b, b ∉ turns C (.slice xa n3 xc) → b < wa.heap.size → ∀ j z, wa.cell? ⟨b, j, none⟩ = some z → w'.cell? ⟨b, j, none⟩ = some z := fun b h1 h2 j z hz => (h.2.1.cell (p := ⟨b, j, none⟩) (Nat.lt_of_lt_of_le h2 (Below.size hcur)) h1).trans (hcur.cell hz)
                have hXn : X ∉ turns C (.slice xa n3 xc) := fun hm' => by
                  rcases turns_mem.1 hm' with e' | e'
                  · have := HST.out.box.lt; have := HX.out; omega
                  · have := hxa X e'; have := HX.out; omega
                have hYn : Y ∉ turns C (.slice xa n3 xc) := fun hm' => by
                  rcases turns_mem.1 hm' with e' | e'
                  · omega
                  · exact (HOW.out Y e').1 rfl
                have hgn : g' ∉ turns C (.slice xa n3 xc) := fun hm' => by
                  rcases turns_mem.1 hm' with e' | e'
                  · omega
                  · have := hxa g' e'; omega
                exact ⟨hnt X hXn bX.lt 0 _ (bX.cell 0), hnt X hXn bX.lt 1 _ (bX.cell 1), hnt X hXn bX.lt 2 _ (bX.cell 2), hnt X hXn bX.lt 3 _ (bX.cell 3), hnt Y hYn iY.lt 0 _ (iY.cell 0), hnt g' hgn (lt_of_cell q4) _ _ q4, hnt g' hgn (lt_of_cell q4) _ _ q5⟩
              have l0 := bX.cell 0
              have l1 := bX.cell 1
              have l2 := bX.cell 2
              have l3 := bX.cell 3
              have l4 := iY.cell 0
              have hSS : wa.cell? ⟨X, 0, none⟩ = some (.slice s1 ubn s2) ∧ wa.cell? ⟨X, 1, none⟩ = some (.int .i64 u.kind) ∧ wa.cell? ⟨X, 2, none⟩ = some (.int .i64 u.idx) ∧ wa.cell? ⟨X, 3, none⟩ = some (.slice s3 uan s4) ∧ wa.cell? ⟨Y, 0, none⟩ = some (.slice (some ⟨g', o', none⟩) hn hcp) ∧ wa.cell? ⟨g', o' + k * 2, none⟩ = some (.slice s5 van s6) ∧ wa.cell? ⟨g', o' + k * 2 + 1, none⟩ = some (.int .i64 v.base) := ⟨l0, l1, l2, l3, l4, q4, q5⟩
              have hSSd : wa.drew.cell? ⟨X, 0, none⟩ = some (.slice s1 ubn s2) ∧ wa.drew.cell? ⟨X, 1, none⟩ = some (.int .i64 u.kind) ∧ wa.drew.cell? ⟨X, 2, none⟩ = some (.int .i64 u.idx) ∧ wa.drew.cell? ⟨X, 3, none⟩ = some (.slice s3 uan s4) ∧ wa.drew.cell? ⟨Y, 0, none⟩ = some (.slice (some ⟨g', o', none⟩) hn hcp) ∧ wa.drew.cell? ⟨g', o' + k * 2, none⟩ = some (.slice s5 van s6) ∧ wa.drew.cell? ⟨g', o' + k * 2 + 1, none⟩ = some (.int .i64 v.base) := hSS
              have hcur := Cur.refl wa
              clear hwa hX hrr hsu hru hsv hsua hrua hsva hcs hms r0 r1 hst l0 l1 l2 l3 l4 q4 q5
              go_upto_region 10 with fail
              rw [HX.out, HWA.out]
              clear HWA
              go_region_held3 (fun v' => v'.cell? ⟨X, 0, none⟩ = some (.slice s1 ubn s2) ∧ v'.cell? ⟨X, 1, none⟩ = some (.int .i64 u.kind) ∧ v'.cell? ⟨X, 2, none⟩ = some (.int .i64 u.idx) ∧ v'.cell? ⟨X, 3, none⟩ = some (.slice s3 uan s4) ∧ v'.cell? ⟨Y, 0, none⟩ = some (.slice (some ⟨g', o', none⟩) hn hcp) ∧ v'.cell? ⟨g', o' + k * 2, none⟩ = some (.slice s5 van s6) ∧ v'.cell? ⟨g', o' + k * 2 + 1, none⟩ = some (.int .i64 v.base))
                (first | with_reducible exact hSS | with_reducible exact hSSd | with_reducible exact hS5)
                ((go_at_call 62; refine (k77 _ (by first | with_reducible assumption | (with_reducible refine Cur.drew ?_; assumption))).mono ?_; rintro e w5 ⟨rfl, hO5, hS6, hS5⟩))
              have hO5w : Only (turns C (.slice xa n3 xc)) wa w5 := ⟨hO5.os, hO5.tape, hO5.output, hO5.size, hO5.block⟩
              have hOr : Only (turns C (.slice p1 pn p2)) w w5 := hOa.then hO5w (fun x hx hlx => by
                rcases turns_mem.1 hx with e' | e'
                · exact turns_mem.2 (.inl e')
                · rcases (HOW.out x e').2.2.2 with h8 | h8
                  · exact turns_mem.2 (.inr h8)
                  · omega)
              have hHn : H ∉ turns C (.slice xa n3 xc) := fun hm' => by
                rcases turns_mem.1 hm' with e' | e'
                · omega
                · exact (HOW.out H e').2.1 rfl
              have hHn1 : H + 1 ∉ turns C (.slice xa n3 xc) := fun hm' => by
                rcases turns_mem.1 hm' with e' | e'
                · omega
                · exact (HOW.out _ e').2.2.1 rfl
              have hYn : Y ∉ turns C (.slice xa n3 xc) := fun hm' => by
                rcases turns_mem.1 hm' with e' | e'
                · omega
                · exact (HOW.out Y e').1 rfl
              have hlow : ∀ k ∈ turns C (.slice xa n3 xc), N ≤ k := fun k hk => by
                rcases turns_mem.1 hk with e' | e'
                · omega
                · exact (hxa k e').1
              have hwaN : N ≤ wa.heap.size := by have := iY.lt; omega
              have g1 := i1.only hO5w hHn
              have g2 := i2.only hO5w hHn1
              have gY := iY.only hO5w hYn
              have hB35 : Below N w3 w5 := hba3.trans (hO5w.below hwaN hlow)
              have hwaY := iY.lt
              clear hSS hSSd hS5 k77 hO5 hOa hba3 hbaN
              cases rr
              · go_wp2
                go_ret
                have hfal : r = false := by rw [HR.out]; exact isL_no _ _ _ HU.out HV.out HR2.out
                exact ⟨ret_bool hfal.symm, hOr, fun h => by rw [hfal] at h; cases h⟩
              · obtain ⟨xv', hst5, hown5⟩ := hS6 rfl
                obtain ⟨xa', xc', rfl⟩ := row_shape hst5.row
                rw [HN3.out] at hst5 hown5
                have HST5 : Hid _ := hst5
                have HOW5 : Hid (∀ b, (Value.slice xa' n3 xc').ownBlock = some b → b ≠ Y ∧ b ≠ H ∧ b ≠ H + 1 ∧ ((Value.slice p1 pn p2).ownBlock = some b ∨ H ≤ b)) := fun b hb => by
                  rcases hown5 b hb with h8 | h8
                  · exact HOW.out b h8
                  · have h9 : wa.heap.size ≤ b := h8
                    exact ⟨by omega, by omega, by omega, .inr (by omega)⟩
                clear hst5 hown5 hS6
                go_wp2
                go_roundw
                case rel => exact ⟨k + 1, xa', xc', by omega, by go_num, HF.out.step HU.out HV.out HR2.out, HST5, HOW5, g1, g2, gY, hOr, hB35⟩
                case measure => simp [intOf]; omega
            · obtain rfl : k = t.args.length := by omega
              have hc3 := HST.out.box.cell 3
              have hf3 := HST.out.box.frozen 3
              have hc0 := j1.cell 0
              have hn3' : n3 = pn + bn := by
                have hql : qs.length = t.binds.length := by rw [← hqs, List.length_map]
                rw [← HN3.out, List.length_append, hql, HPN.out, HBN.out]
              have hxc : n3 ≤ xc := by
                have hr9 := HST.out.row
                rw [HN3.out] at hr9
                rcases hr9.2 with ⟨e1, _⟩ | ⟨g9, c9, _, e1, _, _, h9, _⟩
                · injection e1 with e2 e3 e4; omega
                · injection e1 with e2 e3 e4; omega
              have hn3 : (n3 : Int) - (bn : Int) = (pn : Int) := by omega
              have v1 : (pn : Int) ≤ (xc : Int) := by omega
              have v2 : (0 : Int) ≤ (pn : Int) := by omega
              have v3 : pn ≤ 1000000 := by have := HPN.out; omega
              have v4 : IntKind.i64.wrap (pn : Int) = (pn : Int) := by rw [IntKind.wrap_i64]; omega
              clear hn3'
              go_upto_region 13 with fail
              go_still_tail 15, (by kernel_rfl)
              have hCx := row_other HST.out.row HST.out.box (by decide)
              have hrow9 := row_front HST.out.row
              rw [HPN.out] at hrow9
              obtain ⟨wd, hwd⟩ : ∃ wd, wr.drew = wd := ⟨_, rfl⟩
              have hbd : Blk wd C 109 #[.int .i64 bs, .slice c1 cn c2, .slice m1 mn m2, .slice xa n3 xc] := by rw [← hwd]; exact HST.out.box.drew
              have hrd : wd.ownsRow N 32 2 (.slice xa pn xc) pn (pcells ps) := by rw [← hwd]; exact hrow9.drew
              have hOd : Only (turns C (.slice p1 pn p2)) w wd := by rw [← hwd]; exact hO.drew
              have hBd : Below N w wd := by rw [← hwd]; exact hbN.drew
              show wpList _ _ _ _ _ wr.drew
              rw [hwd]
              clear hwd hc3 hf3 hc0 hO hbN hrow9 hB3
              have hc3 := hbd.cell 3
              have hf3 := hbd.frozen 3
              have hst9 : StkQ (wd.setCell ⟨C, 3, none⟩ (.slice xa pn xc)) N C bs (.slice c1 cn c2) (.slice m1 mn m2) (.slice xa pn xc) ps := by
                refine ⟨hbd.set 3 (.slice xa pn xc), ?_, fun p hp => ?_, hNC⟩
                · rw [HPN.out]
                  exact row_onlyQ hrd (Only.set (B := C) (Only.refl [C] wd) (by simp) 3 _) (fun b hb hm => hCx (by rw [own_same xa n3 pn xc, hb, List.mem_singleton.1 hm]))
                · exact (hst.kid p hp).belN (fun b h => h) (bset hBd hNC _)
              have hO9 := hOd.set (B := C) (turns_mem.2 (.inl rfl)) 3 (.slice xa pn xc)
              have HR9 : Hid (r = true) := by
                show _ = _
                rw [HR.out]
                exact isL_of_up fun i x y hx hy => HF.out i x y (List.getElem?_eq_some_iff.1 hx).1 hx hy
              go_wp2
              go_ret
              exact ⟨ret_bool HR9.out.symm, hO9, fun _ => ⟨_, hst9, fun b hb => by
                have h8 := (HOW.out b (by rw [own_same xa n3 pn xc]; exact hb)).2.2.2
                exact h8⟩⟩
        · have z2 : ((hn : Int) != (t.args.length : Int)) = true := by simp; omega
          have HR : Hid (r = false) := by show _ = _; rw [← HE2.out, HE.out, HS.out, HO.out]; simp [← HHN.out, hle]
          clear hle
          go_wp2
          go_ret
          exact ⟨ret_bool HR.out.symm, hOc, fun h => by rw [HR.out] at h; cases h⟩
      · have z1 : (h.base != ty.base) = true := by simp [hba]
        have HR : Hid (r = false) := by show _ = _; rw [← HE2.out, HE.out, HS.out, HO.out]; simp [hba]
        clear hba
        go_wp2
        go_ret
        exact ⟨ret_bool HR.out.symm, hOc, fun h => by rw [HR.out] at h; cases h⟩

end Go.Proofs.Ytckagmagjogmnaa

/-
  The contract of term.Check.
-/
namespace Go.Proofs.Ytckagmagjogmnaa
open Go Go.RowKit Go.Sort

set_option maxRecDepth 100000 in
set_option maxHeartbeats 1600000 in
theorem Check_calls (cs ms ctx : List Ty) (t : Tm) (ty : Ty) (bs : Int) (cv mv xv sb sr sy : Value) (w : World) (hc : Holds w okT cs cv) (hm : Holds w okT ms mv) (hx : Holds w okT ctx xv) (hb : Holds w okT t.binds sb) (hr : HoldsT w okT t.args sr) (hy : Holds w okT ty.args sy) (hrg : t.rng) (hsz : ctx.length + t.total ≤ 900000) :
    Calls Try.prog 37 #[wov bs cv mv, xv, tmv sb t.kind t.idx sr, tv sy ty.base] w fun e w' => e = .returned (.int .i64 (chkI cs ms ctx t ty)) ∧ Below w.heap.size w w' := by
  obtain ⟨c1, c2, rfl, _⟩ := hc.shape
  obtain ⟨m1, m2, rfl, _⟩ := hm.shape
  obtain ⟨a1, a2, rfl, _⟩ := hx.shape
  obtain ⟨x1, x2, rfl, _⟩ := hb.shape
  obtain ⟨x3, x4, rfl, _⟩ := hr.shape
  obtain ⟨y1, y2, rfl, _⟩ := hy.shape
  have hst := t.size_le_total
  obtain ⟨N, hN⟩ : ∃ N, w.heap.size = N := ⟨_, rfl⟩
  rw [hN]
  obtain ⟨r, hre⟩ : ∃ r, chkI cs ms ctx t ty = r := ⟨_, rfl⟩
  have HE : Hid ((if rightTB t then (if t.is cs ms ctx ty then (0 : Int) else 5) else 2) = r) := hre
  rw [hre]
  clear hre
  have hc0 : Holds w (fun b => b < N) cs _ := hc.mono fun b hb _ => hN ▸ hb
  have hm0 : Holds w (fun b => b < N) ms _ := hm.mono fun b hb _ => hN ▸ hb
  have hb0 : Holds w (fun b => b < N) t.binds _ := hb.mono fun b hb _ => hN ▸ hb
  have hr0 : HoldsT w (fun b => b < N) t.args _ := hr.mono fun b hb _ => hN ▸ hb
  have hy0 : Holds w (fun b => b < N) ty.args _ := hy.mono fun b hb _ => hN ▸ hb
  have hx0 : Holds w (fun b => b < N) ctx _ := hx.mono fun b hb _ => hN ▸ hb
  have k12 := fun cur (h : Below N w cur) => RightH_calls t okT (.slice x1 t.binds.length x2) (.slice x3 t.args.length x4) cur (hb.bel (hN ▸ h)) (hr.bel (hN ▸ h)) (by omega)
  have k76 := fun cur (h : Below N w cur) => CloneTy_calls ctx (fun b => b < N) (.slice a1 ctx.length a2) cur (hx0.belN (fun b h => h) h) (by omega)
  have k77 := fun C (ps : List (Value × Ty)) (hps : ps.map (·.2) = ctx) v cur (h : Below N w cur) (hst : StkQ cur N C bs (.slice c1 cs.length c2) (.slice m1 ms.length m2) v ps) => is_calls cs ms t N C ps ty bs (.slice c1 cs.length c2) (.slice m1 ms.length m2) v (.slice x1 t.binds.length x2) (.slice x3 t.args.length x4) (.slice y1 ty.args.length y2) cur
    (hc0.belN (fun b h => h) h) (hm0.belN (fun b h => h) h) (hb0.belN (fun b h => h) h) (hr0.keep (ok' := fun b => b < N) fun b _ ho => ⟨h.block b ho, ho⟩) (hy0.belN (fun b h => h) h) hst hrg (by rw [← hps, List.length_map] at hsz; omega)
  obtain ⟨q, hq⟩ : ∃ q, rightTB t = q := ⟨_, rfl⟩
  obtain ⟨s, hs⟩ : ∃ s, t.is cs ms ctx ty = s := ⟨_, rfl⟩
  rw [hq, hs] at HE
  have HS : Hid _ := hs
  simp only [hq] at k12
  clear hc hm hx hb hr hy hc0 hm0 hb0 hr0 hy0 hx0 hs hq hst hsz
  generalize cs.length = cn at *
  generalize ms.length = mn at *
  generalize ctx.length = xn at *
  generalize t.binds.length = bn at *
  generalize t.args.length = an at *
  generalize ty.args.length = yn at *
  obtain ⟨W0, hW0⟩ : ∃ W0, ((w.alloc (.cells #[.int .i64 bs, .slice c1 cn c2, .slice m1 mn m2] 57)).alloc (.cells #[.slice x1 bn x2, .int .i64 t.kind, .int .i64 t.idx, .slice x3 an x4] 76)).alloc (.cells #[.slice y1 yn y2, .int .i64 ty.base] 32) = W0 := ⟨_, rfl⟩
  have b0 : Blk W0 N 57 #[.int .i64 bs, .slice c1 cn c2, .slice m1 mn m2] := by rw [← hW0]; exact ((Blk.new' w N 57 _ hN).alloc _).alloc _
  have b1 : Blk W0 (N + 1) 76 #[.slice x1 bn x2, .int .i64 t.kind, .int .i64 t.idx, .slice x3 an x4] := by rw [← hW0]; exact (Blk.new' _ (N + 1) 76 _ (by simp [hN])).alloc _
  have b2 : Blk W0 (N + 1 + 1) 32 #[.slice y1 yn y2, .int .i64 ty.base] := by rw [← hW0]; exact Blk.new' _ (N + 1 + 1) 32 _ (by simp [hN])
  have bl0 : Below N w W0 := by rw [← hW0]; exact (((Below.refl N w).alloc (by omega) _).alloc (by simp; omega) _).alloc (by simp; omega) _
  have HW : Hid _ := hW0
  have c0 := b1.cell 0
  have d1 := b1.cell 1
  have d2 := b1.cell 2
  have d3 := b1.cell 3
  have k1 := k12 _ bl0
  have hl0 : N + 1 + 1 < W0.heap.size := b2.lt
  clear hW0 k12
  go_enter Try.func37, Try.ntmps37
  go_upto_region 1 with fail
  rw [HW.out]
  clear HW
  go_wp2_with fail
  refine k1.mono ?_
  clear k1
  rintro e w1 ⟨rfl, hb1⟩
  have hB1 : Below N w w1 := bl0.trans (hb1.mono (by omega))
  have e0 := b0.below hb1 b0.lt
  have e1 := b1.below hb1 b1.lt
  have e2 := b2.below hb1 b2.lt
  clear b0 b1 b2 bl0 c0 d1 d2 d3 hb1
  have hl1 : N + 1 + 1 < w1.heap.size := e2.lt
  cases q with
  | false =>
    clear k76 k77 e0 e1 e2
    go_wp2
    go_ret
    exact ⟨by rw [← HE.out]; rfl, hB1⟩
  | true =>
  go_upto_region 3 with fail
  go_cut [9] (fun s9 wx => ∃ (C : Nat) (v : Value) (ps : List (Value × Ty)), s9 = .pointer (some ⟨C, 0, none⟩) ∧ w1.heap.size ≤ C ∧ StkQ wx N C bs (.slice c1 cn c2) (.slice m1 mn m2) v ps ∧ ps.map (·.2) = ctx ∧ Below w1.heap.size w1 wx)
  case first =>
    have c0 := e0.cell 0
    have c3 := e0.cell 1
    have c4 := e0.cell 2
    have hK : ∀ v, Cur w1 v → v.cell? ⟨N, 0, none⟩ = some (.int .i64 bs) ∧ v.cell? ⟨N, 1, none⟩ = some (.slice c1 cn c2) ∧ v.cell? ⟨N, 2, none⟩ = some (.slice m1 mn m2) := fun v hv => ⟨hv.cell c0, hv.cell c3, hv.cell c4⟩
    have k7 : ∀ cur, Cur w1 cur → Calls Try.prog 53 #[.slice a1 xn a2] cur fun e w' => ∃ ra rn rc ps, e = .returned (.slice ra rn rc) ∧ w'.ownsRow cur.heap.size 32 2 (.slice ra rn rc) ps.length (pcells ps) ∧ ps.map (·.2) = ctx ∧ (∀ p ∈ ps, Holds cur (fun b => b < N) p.2.args p.1) ∧ Below cur.heap.size cur w' ∧ Cur w1 w' := fun cur hcur =>
      (k76 cur (hB1.trans (hcur.mono (by omega)))).mono fun e w' ⟨v, ps, h1, h2, h3, h4, h5⟩ => by
        obtain ⟨ra, rc, rfl⟩ := row_shape h2
        exact ⟨ra, _, rc, ps, h1, h2, h3, h4, h5, hcur.then h5⟩
    have hZ : Blk (w1.alloc (.cells #[.int .i64 0, .slice none 0 0, .slice none 0 0, .slice none 0 0] 109)).drew w1.heap.size 109 #[.int .i64 0, .slice none 0 0, .slice none 0 0, .slice none 0 0] := Blk.new w1 109 _
    have hcur := Cur.refl w1
    have hzz : w1.heap.size ≤ w1.heap.size := Nat.le_refl _
    clear c0 c3 c4 k76 k77
    go_region_held3 (fun v => v.cell? ⟨N, 0, none⟩ = some (.int .i64 bs) ∧ v.cell? ⟨N, 1, none⟩ = some (.slice c1 cn c2) ∧ v.cell? ⟨N, 2, none⟩ = some (.slice m1 mn m2))
      (first | with_reducible exact hK _ (by first | with_reducible assumption | (with_reducible refine Cur.drew ?_; assumption) | (with_reducible refine Cur.alloc ?_ _; assumption) | (with_reducible refine Cur.drew (Cur.alloc ?_ _); assumption) | (with_reducible refine Cur.alloc (Cur.drew ?_) _; assumption) | (with_reducible refine Cur.set (Cur.set (Cur.set (Cur.set ?_ hzz _ _) hzz _ _) hzz _ _) hzz _ _; assumption)))
      ((go_at_call 53; refine (k7 _ (by first | with_reducible assumption | (with_reducible refine Cur.drew ?_; assumption) | (with_reducible refine Cur.alloc ?_ _; assumption) | (with_reducible refine Cur.drew (Cur.alloc ?_ _); assumption) | (with_reducible refine Cur.alloc (Cur.drew ?_) _; assumption))).mono ?_; rintro e z1 ⟨ra, rn, rc, ps, rfl, hrw, hps, hkid, hz1, hcz1⟩; try (with_reducible have bR := hZ.below hz1 hZ.lt); try (have r0 := bR.cell 0; have r1 := bR.cell 1; have r2 := bR.cell 2; have r3 := bR.cell 3; have g0 := bR.frozen 0; have g1 := bR.frozen 1; have g2 := bR.frozen 2; have g3 := bR.frozen 3)))
    · have hs3 := Below.size hcz1
      have hkz : ∀ p ∈ ps, Holds z1 (fun b => b < N) p.2.args p.1 := fun p hp => (hkid p hp).bel hz1
      go_wp2_with fail
      go_meet
      exact ⟨z1.heap.size, .slice ra rn rc, ps, rfl, hs3, ⟨Blk.new z1 109 _, row_lower (hrw.alloc _) (show N ≤ w1.heap.size by omega), fun p hp => (hkz p hp).alloc _, by omega⟩, hps, hcz1.alloc _⟩
    · have hkz : ∀ p ∈ ps, Holds z1 (fun b => b < N) p.2.args p.1 := fun p hp => (hkid p hp).bel hz1
      have hne := row_other hrw bR (by decide)
      have h9 := (((hcz1.set hzz 0 (.int .i64 bs)).set hzz 1 (.slice c1 cn c2)).set hzz 2 (.slice m1 mn m2)).set hzz 3 (.slice ra rn rc)
      have hO := (((Only.refl [w1.heap.size] z1).set (B := w1.heap.size) (by simp) 0 (.int .i64 bs)).set (B := w1.heap.size) (by simp) 1 (.slice c1 cn c2)).set (B := w1.heap.size) (by simp) 2 (.slice m1 mn m2) |>.set (B := w1.heap.size) (by simp) 3 (.slice ra rn rc)
      go_wp2_with fail
      go_meet
      exact ⟨w1.heap.size, .slice ra rn rc, ps, rfl, Nat.le_refl _, ⟨(((bR.set 0 _).set 1 _).set 2 _).set 3 _, row_onlyQ (row_lower hrw (by show N ≤ (w1.alloc _).heap.size; simp; omega)) hO (fun b hb hm => hne (by rw [hb, List.mem_singleton.1 hm])), fun p hp => (hkz p hp).belN (fun b h => h) (hO.below (by have := Below.size hcz1; omega) (by simp; omega)), by omega⟩, hps, h9⟩
  case rest =>
  obtain ⟨C, v, ps, rfl, hCw, hst, hps, hbc⟩ := hcut
  have hBc : Below N w wc := hB1.trans (hbc.mono (by omega))
  have f1 := e1.below hbc e1.lt
  have f2 := e2.below hbc e2.lt
  have c0 := f1.cell 0
  have d1 := f1.cell 1
  have d2 := f1.cell 2
  have d3 := f1.cell 3
  have g0 := f2.cell 0
  have g1 := f2.cell 1
  have k2 := k77 C ps hps v wc hBc hst
  have hlowC : ∀ k ∈ turns C v, N ≤ k := fun k hk => by
    rcases turns_mem.1 hk with e' | e'
    · omega
    · exact (hst.row.lt k e').1
  have hNc : N ≤ wc.heap.size := by have := hst.box.lt; omega
  rw [hps, HS.out] at k2
  clear k76 k77 e0 e1 e2 hst
  go_wp2_with fail
  refine k2.mono ?_
  clear k2
  rintro e w2 ⟨rfl, hO2, _⟩
  have hB2 : Below N w w2 := hBc.trans (hO2.below hNc hlowC)
  clear hO2
  cases s with
  | false =>
    go_wp2
    go_ret
    exact ⟨by rw [← HE.out]; rfl, hB2⟩
  | true =>
    go_wp2
    go_ret
    exact ⟨by rw [← HE.out]; rfl, hB2⟩

end Go.Proofs.Ytckagmagjogmnaa

