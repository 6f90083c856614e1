/-
  Three budgets and three of the document's, in two arrays: what holds between the calls of a play, and how each call keeps it.
-/
import Derived.Test.YtcjeccmnekmipaaRef
namespace Go.Proofs.Ytcjeccmnekmipaa
open Go Go.RowKit

theorem Blk.type {W : World} {B : Nat} {t t' : TypeId} {vs vs' : Array Value} (h : Blk W B t vs) (h' : Blk W B t' vs') : t = t' := by
  have := h.symm.trans h'
  cases this; rfl
theorem Blk.ne {W : World} {B B' : Nat} {t t' : TypeId} {vs vs' : Array Value} (h : Blk W B t vs) (h' : Blk W B' t' vs') (hn : t ≠ t') : B ≠ B' := fun e => hn (by subst e; exact h.type h')

def pv (f : Nat → Nat) (k : Nat) : Value := .pointer (some ⟨f k, 0, none⟩)
/-- an array of three pointers -/
def Arr (W : World) (B : Nat) (t : TypeId) (f : Nat → Nat) : Prop := Blk W B t #[pv f 0, pv f 1, pv f 2]
theorem Arr.cell {W : World} {B : Nat} {t : TypeId} {f : Nat → Nat} (h : Arr W B t f) {k : Nat} (hk : k < 3) : W.cell? ⟨B, k, none⟩ = some (.pointer (some ⟨f k, 0, none⟩)) := by
  rw [Blk.cell h]
  match k, hk with
  | 0, _ => rfl
  | 1, _ => rfl
  | 2, _ => rfl

def upd {A : Type} (f : Nat → A) (y : Nat) (v : A) : Nat → A := fun k => if k = y then v else f k
theorem upd_same {A : Type} (f : Nat → A) (y : Nat) (v : A) : upd f y v y = v := by unfold upd; rw [if_pos rfl]
theorem upd_other {A : Type} (f : Nat → A) {y k : Nat} (v : A) (h : k ≠ y) : upd f y v k = f k := by unfold upd; rw [if_neg h]

theorem Arr.set {W : World} {B : Nat} {t : TypeId} {f : Nat → Nat} (h : Arr W B t f) {y : Nat} (hy : y < 3) (D : Nat) : Arr (W.setCell ⟨B, y, none⟩ (.pointer (some ⟨D, 0, none⟩))) B t (upd f y D) := by
  have := Blk.set h y (.pointer (some ⟨D, 0, none⟩))
  match y, hy with
  | 0, _ => exact this
  | 1, _ => exact this
  | 2, _ => exact this

/-- the numbers of a play -/
structure Sums (st : Nat → St) : Prop where
  l0 : ∀ k, k < 3 → 0 ≤ (st k).l
  t0 : ∀ k, k < 3 → 0 ≤ (st k).l + (st k).u
  t1 : ∀ k, k < 3 → (st k).l + (st k).u ≤ 1000007
  all : (st 0).l + (st 1).l + (st 2).l ≤ 1000007

theorem Sums.le {st : Nat → St} (h : Sums st) {k : Nat} (hk : k < 3) : (st k).l ≤ 1000007 := by
  have a := h.l0 0 (by omega); have b := h.l0 1 (by omega); have c := h.l0 2 (by omega); have d := h.all
  match k, hk with
  | 0, _ => omega
  | 1, _ => omega
  | 2, _ => omega
theorem Sums.two {st : Nat → St} (h : Sums st) {x y : Nat} (hx : x < 3) (hy : y < 3) (hn : x ≠ y) : (st x).l + (st y).l ≤ 1000007 := by
  have a := h.l0 0 (by omega); have b := h.l0 1 (by omega); have c := h.l0 2 (by omega); have d := h.all
  match x, y, hx, hy, hn with
  | 0, 0, _, _, hn => exact absurd rfl hn
  | 0, 1, _, _, _ => omega
  | 0, 2, _, _, _ => omega
  | 1, 0, _, _, _ => omega
  | 1, 1, _, _, hn => exact absurd rfl hn
  | 1, 2, _, _, _ => omega
  | 2, 0, _, _, _ => omega
  | 2, 1, _, _, _ => omega
  | 2, 2, _, _, hn => exact absurd rfl hn
theorem Sums.ok {st : Nat → St} (h : Sums st) {k : Nat} (hk : k < 3) : (st k).ok := by
  have a := h.l0 k hk; have b := h.t0 k hk; have c := h.t1 k hk; have d := h.le hk
  exact ⟨a, by omega, by omega, by omega⟩

theorem Sums.upd1 {st : Nat → St} (h : Sums st) {x : Nat} (hx : x < 3) (t : St) (a : 0 ≤ t.l) (b : t.l ≤ (st x).l) (c : 0 ≤ t.l + t.u) (d : t.l + t.u ≤ 1000007) : Sums (upd st x t) := by
  have q := h.all
  refine ⟨fun k hk => ?_, fun k hk => ?_, fun k hk => ?_, ?_⟩
  · unfold upd; split; exact a; exact h.l0 k hk
  · unfold upd; split; exact c; exact h.t0 k hk
  · unfold upd; split; exact d; exact h.t1 k hk
  · match x, hx with
    | 0, _ => simp [upd]; omega
    | 1, _ => simp [upd]; omega
    | 2, _ => simp [upd]; omega

theorem Sums.upd2 {st : Nat → St} (h : Sums st) {x y : Nat} (hx : x < 3) (hy : y < 3) (hn : x ≠ y) (t o : St) (a : 0 ≤ t.l) (a' : 0 ≤ o.l) (b : t.l + o.l ≤ (st x).l + (st y).l) (c : 0 ≤ t.l + t.u) (d : t.l + t.u ≤ 1000007) (c' : 0 ≤ o.l + o.u) (d' : o.l + o.u ≤ 1000007) : Sums (upd (upd st x t) y o) := by
  have q := h.all
  refine ⟨fun k hk => ?_, fun k hk => ?_, fun k hk => ?_, ?_⟩
  · unfold upd; split; exact a'; split; exact a; exact h.l0 k hk
  · unfold upd; split; exact c'; split; exact c; exact h.t0 k hk
  · unfold upd; split; exact d'; split; exact d; exact h.t1 k hk
  · match x, y, hx, hy, hn with
    | 0, 0, _, _, hn => exact absurd rfl hn
    | 0, 1, _, _, _ => simp [upd]; omega
    | 0, 2, _, _, _ => simp [upd]; omega
    | 1, 0, _, _, _ => simp [upd]; omega
    | 1, 1, _, _, hn => exact absurd rfl hn
    | 1, 2, _, _, _ => simp [upd]; omega
    | 2, 0, _, _, _ => simp [upd]; omega
    | 2, 1, _, _, _ => simp [upd]; omega
    | 2, 2, _, _, hn => exact absurd rfl hn

theorem St.some_l (s : St) (n : Int) (h : 0 ≤ s.l) : 0 ≤ s.some n ∧ s.some n ≤ s.l := by unfold St.some; split <;> (try split) <;> omega

/-- spent -/
theorem Sums.spend {st : Nat → St} (h : Sums st) {x : Nat} (hx : x < 3) (n : Int) : Sums (upd st x ((st x).spend n)) := by
  have a := (st x).spend_l n (h.l0 x hx)
  exact h.upd1 hx _ a.1 a.2.1 (by rw [a.2.2]; exact h.t0 x hx) (by rw [a.2.2]; exact h.t1 x hx)
/-- split off -/
theorem Sums.split {st : Nat → St} (h : Sums st) {x y : Nat} (hx : x < 3) (hy : y < 3) (n : Int) : Sums (upd (upd st x ((st x).less n)) y ⟨(st x).some n, 0, false⟩) := by
  have a := (st x).some_l n (h.l0 x hx)
  have b := h.le hx
  have t0 := h.t0 x hx
  have t1 := h.t1 x hx
  by_cases hn : x = y
  · subst hn
    have e : upd (upd st x ((st x).less n)) x ⟨(st x).some n, 0, false⟩ = upd st x ⟨(st x).some n, 0, false⟩ := by funext k; unfold upd; split <;> rfl
    rw [e]
    exact h.upd1 hx _ a.1 a.2 (by simp; omega) (by simp; omega)
  · have q := h.l0 y hy
    refine h.upd2 hx hy hn _ _ ?_ a.1 ?_ ?_ ?_ ?_ ?_
    · simp [St.less]; omega
    · simp [St.less]; omega
    · simp [St.less]; omega
    · simp [St.less]; omega
    · simp; omega
    · simp; omega
/-- brought back -/
theorem Sums.back {st : Nat → St} (h : Sums st) {x y : Nat} (hx : x < 3) (hy : y < 3) (hn : x ≠ y) : Sums (upd (upd st x ((st x).more (st y))) y (st y).gone) := by
  have a := h.l0 x hx; have b := h.l0 y hy
  have t0 := h.t0 x hx; have t1 := h.t1 x hx; have s0 := h.t0 y hy; have s1 := h.t1 y hy
  refine h.upd2 hx hy hn _ _ ?_ ?_ ?_ ?_ ?_ ?_ ?_ <;> simp [St.more, St.gone] <;> omega

/-- WHAT HOLDS BETWEEN THE CALLS. -/
structure Play (w wr : World) (N Bb Cc : Nat) (st : Nat → St) (bl cl : Nat → Nat) : Prop where
  size : w.heap.size = N
  only : Only [] w wr
  nb : N ≤ Bb
  nc : N ≤ Cc
  B : Arr wr Bb 26 bl
  C : Arr wr Cc 29 cl
  b : ∀ k, k < 3 → Bud wr (bl k) (st k)
  c : ∀ k, k < 3 → Refb wr (cl k) (st k)
  lb : ∀ k, k < 3 → N ≤ bl k
  lc : ∀ k, k < 3 → N ≤ cl k
  ib : ∀ i j, i < 3 → j < 3 → bl i = bl j → i = j
  ic : ∀ i j, i < 3 → j < 3 → cl i = cl j → i = j
  sums : Sums st

theorem Play.bc {w wr : World} {N Bb Cc : Nat} {st : Nat → St} {bl cl : Nat → Nat} (h : Play w wr N Bb Cc st bl cl) {i j : Nat} (hi : i < 3) (hj : j < 3) : bl i ≠ cl j := Blk.ne (h.b i hi) (h.c j hj) (by decide)
theorem Play.bB {w wr : World} {N Bb Cc : Nat} {st : Nat → St} {bl cl : Nat → Nat} (h : Play w wr N Bb Cc st bl cl) {i : Nat} (hi : i < 3) : Bb ≠ bl i := Blk.ne h.B (h.b i hi) (by decide)
theorem Play.cB {w wr : World} {N Bb Cc : Nat} {st : Nat → St} {bl cl : Nat → Nat} (h : Play w wr N Bb Cc st bl cl) {i : Nat} (hi : i < 3) : Bb ≠ cl i := Blk.ne h.B (h.c i hi) (by decide)
theorem Play.bC {w wr : World} {N Bb Cc : Nat} {st : Nat → St} {bl cl : Nat → Nat} (h : Play w wr N Bb Cc st bl cl) {i : Nat} (hi : i < 3) : Cc ≠ bl i := Blk.ne h.C (h.b i hi) (by decide)
theorem Play.cC {w wr : World} {N Bb Cc : Nat} {st : Nat → St} {bl cl : Nat → Nat} (h : Play w wr N Bb Cc st bl cl) {i : Nat} (hi : i < 3) : Cc ≠ cl i := Blk.ne h.C (h.c i hi) (by decide)
theorem Play.BC {w wr : World} {N Bb Cc : Nat} {st : Nat → St} {bl cl : Nat → Nat} (h : Play w wr N Bb Cc st bl cl) : Bb ≠ Cc := Blk.ne h.B h.C (by decide)

/-- what is neither budget nor array has turned, or is new -/
theorem Play.by {w wr w' : World} {N Bb Cc : Nat} {st : Nat → St} {bl cl : Nat → Nat} (h : Play w wr N Bb Cc st bl cl) (o : Only [] wr w') : Play w w' N Bb Cc st bl cl :=
  ⟨h.size, h.only.trans o, h.nb, h.nc, Blk.only h.B o (by simp), Blk.only h.C o (by simp), fun k hk => (h.b k hk).only o (by simp), fun k hk => (h.c k hk).only o (by simp), h.lb, h.lc, h.ib, h.ic, h.sums⟩

/-- blocks of S: budgets, or the document's, whose numbers are told anew -/
theorem Play.turn {w wr w' : World} {N Bb Cc : Nat} {st st' : Nat → St} {bl cl : Nat → Nat} (h : Play w wr N Bb Cc st bl cl) {S : List Nat} (o : Only S wr w') (hS : ∀ k ∈ S, N ≤ k) (hB : Bb ∉ S) (hC : Cc ∉ S)
    (hb : ∀ k, k < 3 → Bud w' (bl k) (st' k)) (hc : ∀ k, k < 3 → Refb w' (cl k) (st' k)) (hs : Sums st') : Play w w' N Bb Cc st' bl cl :=
  ⟨h.size, h.only.then o (fun x hx hl => by have := hS x hx; have := h.size; omega), h.nb, h.nc, Blk.only h.B o hB, Blk.only h.C o hC, hb, hc, h.lb, h.lc, h.ib, h.ic, hs⟩

theorem Play.spend {w wr w1 w2 : World} {N Bb Cc : Nat} {st : Nat → St} {bl cl : Nat → Nat} (h : Play w wr N Bb Cc st bl cl) {x : Nat} (hx : x < 3) (n : Int)
    (b1 : Bud w1 (bl x) ((st x).spend n)) (o1 : Only [bl x] wr w1) (c2 : Refb w2 (cl x) ((st x).spend n)) (o2 : Only [cl x] w1 w2) : Play w w2 N Bb Cc (upd st x ((st x).spend n)) bl cl := by
  have o : Only [bl x, cl x] wr w2 := (o1.mono (T := [bl x, cl x]) (by simp)).then o2 (by simp)
  refine h.turn o (by simp; exact ⟨h.lb x hx, h.lc x hx⟩) (by simp; exact ⟨h.bB hx, h.cB hx⟩) (by simp; exact ⟨h.bC hx, h.cC hx⟩) (fun k hk => ?_) (fun k hk => ?_) (h.sums.spend hx n)
  · by_cases e : k = x
    · subst e; rw [upd_same]; exact b1.only o2 (by simp; exact h.bc hk hk)
    · rw [upd_other _ _ e]; exact (h.b k hk).only o (by simp; exact ⟨fun e' => e (h.ib k x hk hx e'), h.bc hk hx⟩)
  · by_cases e : k = x
    · subst e; rw [upd_same]; exact c2
    · rw [upd_other _ _ e]; exact (h.c k hk).only o (by simp; exact ⟨fun e' => h.bc hx hk e'.symm, fun e' => e (h.ic k x hk hx e')⟩)

theorem Play.back {w wr w1 w2 : World} {N Bb Cc : Nat} {st : Nat → St} {bl cl : Nat → Nat} (h : Play w wr N Bb Cc st bl cl) {x y : Nat} (hx : x < 3) (hy : y < 3) (hn : x ≠ y)
    (b1 : Bud w1 (bl x) ((st x).more (st y))) (b1' : Bud w1 (bl y) (st y).gone) (o1 : Only [bl x, bl y] wr w1) (c2 : Refb w2 (cl x) ((st x).more (st y))) (c2' : Refb w2 (cl y) (st y).gone) (o2 : Only [cl x, cl y] w1 w2) :
    Play w w2 N Bb Cc (upd (upd st x ((st x).more (st y))) y (st y).gone) bl cl := by
  have o : Only [bl x, bl y, cl x, cl y] wr w2 := (o1.mono (T := [bl x, bl y, cl x, cl y]) (by simp)).then o2 (by simp)
  refine h.turn o (by simp; exact ⟨h.lb x hx, h.lb y hy, h.lc x hx, h.lc y hy⟩) (by simp; exact ⟨h.bB hx, h.bB hy, h.cB hx, h.cB hy⟩) (by simp; exact ⟨h.bC hx, h.bC hy, h.cC hx, h.cC hy⟩) (fun k hk => ?_) (fun k hk => ?_) (h.sums.back hx hy hn)
  · by_cases e : k = y
    · subst e; rw [upd_same]; exact b1'.only o2 (by simp; exact ⟨h.bc hk hx, h.bc hk hk⟩)
    · rw [upd_other _ _ e]
      by_cases e2 : k = x
      · subst e2; rw [upd_same]; exact b1.only o2 (by simp; exact ⟨h.bc hk hk, h.bc hk hy⟩)
      · rw [upd_other _ _ e2]; exact (h.b k hk).only o (by simp; exact ⟨fun e' => e2 (h.ib k x hk hx e'), fun e' => e (h.ib k y hk hy e'), h.bc hk hx, h.bc hk hy⟩)
  · by_cases e : k = y
    · subst e; rw [upd_same]; exact c2'
    · rw [upd_other _ _ e]
      by_cases e2 : k = x
      · subst e2; rw [upd_same]; exact c2
      · rw [upd_other _ _ e2]; exact (h.c k hk).only o (by simp; exact ⟨fun e' => h.bc hx hk e'.symm, fun e' => h.bc hy hk e'.symm, fun e' => e2 (h.ic k x hk hx e'), fun e' => e (h.ic k y hk hy e')⟩)

theorem upd_inj {f : Nat → Nat} {y D : Nat} (hf : ∀ i j, i < 3 → j < 3 → f i = f j → i = j) (hD : ∀ k, k < 3 → f k ≠ D) : ∀ i j, i < 3 → j < 3 → upd f y D i = upd f y D j → i = j := by
  intro i j hi hj e
  by_cases hiy : i = y
  · by_cases hjy : j = y
    · rw [hiy, hjy]
    · rw [hiy, upd_same, upd_other _ _ hjy] at e; exact absurd e.symm (hD j hj)
  · by_cases hjy : j = y
    · rw [hjy, upd_same, upd_other _ _ hiy] at e; exact absurd e (hD i hi)
    · rw [upd_other _ _ hiy, upd_other _ _ hjy] at e; exact hf i j hi hj e

theorem Play.split {w wr w1 w2 : World} {N Bb Cc : Nat} {st : Nat → St} {bl cl : Nat → Nat} (h : Play w wr N Bb Cc st bl cl) {x y : Nat} (hx : x < 3) (hy : y < 3) (n : Int) {D E : Nat}
    (b1 : Bud w1 (bl x) ((st x).less n)) (d1 : Bud w1 D ⟨(st x).some n, 0, false⟩) (hD : wr.heap.size ≤ D) (o1 : Only [bl x] wr w1)
    (c2 : Refb w2 (cl x) ((st x).less n)) (e2 : Refb w2 E ⟨(st x).some n, 0, false⟩) (hE : w1.heap.size ≤ E) (o2 : Only [cl x] w1 w2) :
    Play w ((w2.setCell ⟨Bb, y, none⟩ (.pointer (some ⟨D, 0, none⟩))).setCell ⟨Cc, y, none⟩ (.pointer (some ⟨E, 0, none⟩))) N Bb Cc (upd (upd st x ((st x).less n)) y ⟨(st x).some n, 0, false⟩) (upd bl y D) (upd cl y E) := by
  have hsz := h.size
  have hgrow := h.only.size
  have hg1 := o1.size
  have lB := Blk.lt h.B
  have lC := Blk.lt h.C
  have lb : ∀ k, k < 3 → bl k < wr.heap.size := fun k hk => (h.b k hk).lt
  have lc : ∀ k, k < 3 → cl k < wr.heap.size := fun k hk => (h.c k hk).lt
  have nB : ∀ k, k < 3 → bl k ≠ Bb := fun k hk e => h.bB hk e.symm
  have nC : ∀ k, k < 3 → bl k ≠ Cc := fun k hk e => h.bC hk e.symm
  have mB : ∀ k, k < 3 → cl k ≠ Bb := fun k hk e => h.cB hk e.symm
  have mC : ∀ k, k < 3 → cl k ≠ Cc := fun k hk e => h.cC hk e.symm
  have lxx := lb x hx
  have lcx := lc x hx
  refine ⟨hsz, ?_, h.nb, h.nc, ?_, ?_, fun k hk => ?_, fun k hk => ?_, fun k hk => ?_, fun k hk => ?_, upd_inj h.ib (fun k hk => ?_), upd_inj h.ic (fun k hk => ?_), h.sums.split hx hy n⟩
  · have p := h.lb x hx
    have q := h.lc x hx
    have a : Only [] w w2 := (h.only.then o1 (by simp; omega)).then o2 (by simp; omega)
    have nb := h.nb
    have nc := h.nc
    exact (a.setNew (by omega) y _).setNew (by omega) y _
  · exact Blk.other (Arr.set (Blk.only (Blk.only h.B o1 (by simp; exact h.bB hx)) o2 (by simp; exact h.cB hx)) hy D) h.BC y _
  · exact Arr.set (Blk.other (Blk.only (Blk.only h.C o1 (by simp; exact h.bC hx)) o2 (by simp; exact h.cC hx)) h.BC.symm y _) hy E
  · by_cases e : k = y
    · subst e
      rw [upd_same, upd_same]
      exact Blk.other (Blk.other (d1.only o2 (by simp; omega)) (by omega) k _) (by omega) k _
    · rw [upd_other _ _ e, upd_other _ _ e]
      refine Blk.other (Blk.other ?_ (nB k hk) y _) (nC k hk) y _
      by_cases e2 : k = x
      · subst e2; rw [upd_same]; exact b1.only o2 (by simp; exact h.bc hk hk)
      · rw [upd_other _ _ e2]; exact ((h.b k hk).only o1 (by simp; exact fun e' => e2 (h.ib k x hk hx e'))).only o2 (by simp; exact h.bc hk hx)
  · by_cases e : k = y
    · subst e
      rw [upd_same, upd_same]
      exact Blk.other (Blk.other e2 (by omega) k _) (by omega) k _
    · rw [upd_other _ _ e, upd_other _ _ e]
      refine Blk.other (Blk.other ?_ (mB k hk) y _) (mC k hk) y _
      by_cases e3 : k = x
      · subst e3; rw [upd_same]; exact c2
      · rw [upd_other _ _ e3]; exact ((h.c k hk).only o1 (by simp; exact fun e' => h.bc hx hk e'.symm)).only o2 (by simp; exact fun e' => e3 (h.ic k x hk hx e'))
  · have p := h.lb k hk
    unfold upd; split <;> omega
  · have p := h.lc k hk
    unfold upd; split <;> omega
  · have p := lb k hk
    omega
  · have p := lc k hk
    omega

end Go.Proofs.Ytcjeccmnekmipaa
