/-
  What RawMakes needs: parts of lists of raw terms, and sizes of what is bound and applied.
-/
import Derived.Test.YtckagmagjogmnaaKnownR
import Derived.Test.YtckagmagjogmnaaFewR
import Derived.Test.YtckagmagjogmnaaCallR
namespace Go.Proofs.Ytckagmagjogmnaa
open Go Go.RowKit

theorem takeR_get {ts : List Rw} {k i : Nat} {t : Rw} (hi : (ts.take k)[i]? = some t) : ts[i]? = some t := by
  rw [List.getElem?_take] at hi
  split at hi
  · exact hi
  · cases hi
theorem HoldsR.take {w : World} {ok : Nat → Prop} {ts : List Rw} {a : Option Addr} {n cap : Nat} (h : HoldsR w ok ts (.slice a n cap)) (k : Nat) (hk : k ≤ ts.length) (c : Nat) (hc' : k ≤ c) (hn' : a = none → c = 0) :
    HoldsR w ok (ts.take k) (.slice a k c) := by
  generalize hv : Value.slice a n cap = v at h
  cases h with
  | mk ts a' cap' f g hcap hnil hc hb hr =>
    cases hv
    have e : k = (ts.take k).length := by simp; omega
    have := HoldsR.mk (w := w) (ok := ok) (ts.take k) a c f g (by omega) hn'
      (fun i t hi => hc i t (takeR_get hi))
      (fun i t hi => hb i t (takeR_get hi))
      (fun i t hi => hr i t (takeR_get hi))
    rwa [← e] at this
theorem holdsR_pairE {w : World} {ok : Nat → Prop} {B : Nat} {s1 r1 s2 r2 : Value} {f a : Rw} {e : TypeId} (hk : Blk w B e #[.int .i64 f.kind, s1, .int .i64 f.ty.base, .int .i64 f.idx, r1, .int .i64 a.kind, s2, .int .i64 a.ty.base, .int .i64 a.idx, r2]) (hB : ok B)
    (h1 : Holds w ok f.ty.args s1) (h2 : HoldsR w ok f.kids r1) (h3 : Holds w ok a.ty.args s2) (h4 : HoldsR w ok a.kids r2) : HoldsR w ok [f, a] (.slice (some ⟨B, 0, none⟩) 2 2) := by
  refine HoldsR.mk [f, a] (some ⟨B, 0, none⟩) 2 (fun i => if i = 0 then s1 else s2) (fun i => if i = 0 then r1 else r2) (Nat.le_refl _) (fun h => by cases h) ?_ ?_ ?_
  · intro i u hi
    match i, hi with
    | 0, hi => cases hi; exact ⟨B, 0, rfl, hB, hk.cell 0, hk.cell 1, hk.cell 2, hk.cell 3, hk.cell 4⟩
    | 1, hi => cases hi; exact ⟨B, 0, rfl, hB, hk.cell 5, hk.cell 6, hk.cell 7, hk.cell 8, hk.cell 9⟩
    | i + 2, hi => simp at hi
  · intro i u hi
    match i, hi with
    | 0, hi => cases hi; exact h1
    | 1, hi => cases hi; exact h3
    | i + 2, hi => simp at hi
  · intro i u hi
    match i, hi with
    | 0, hi => cases hi; exact h2
    | 1, hi => cases hi; exact h4
    | i + 2, hi => simp at hi
theorem lamsR_total (b : Rw) (l : List Ty) : (lamsR b l).total = b.total + l.length + sizeL l := by
  induction l with
  | nil => simp [lamsR, sizeL]
  | cons t l ih =>
    show (lamR t (lamsR b l)).total = _
    rw [Rw.total_eq]
    show 1 + t.size + totalR [lamsR b l] = _
    simp only [totalR, List.length_cons, sizeL, ih]
    omega
theorem appsR_total (f : Rw) (l : List Rw) : (appsR f l).total = f.total + 2 * l.length + totalR l := by
  induction l generalizing f with
  | nil => simp [appsR, totalR]
  | cons a l ih =>
    show (appsR (appR f a) l).total = _
    rw [ih, Rw.total_eq]
    show 1 + (Ty.mk [] 0).size + totalR [f, a] + _ + _ = _
    simp only [totalR, List.length_cons, Ty.size_eq, Ty.args, sizeL]
    omega
theorem totalR_le (l : List Rw) (n : Nat) (h : ∀ u ∈ l, u.total ≤ n) : totalR l ≤ n * l.length := by
  induction l with
  | nil => simp [totalR]
  | cons u l ih =>
    have h1 := h u (by simp)
    have h2 := ih fun v hv => h v (by simp [hv])
    simp only [totalR, List.length_cons, Nat.mul_add, Nat.mul_one]
    omega
theorem lamsR_drop {b : Rw} {l : List Ty} {k : Nat} {t : Ty} (h : l[k]? = some t) : lamsR b (l.drop k) = lamR t (lamsR b (l.drop (k + 1))) := by
  have hlt := (List.getElem?_eq_some_iff.1 h).1
  rw [List.drop_eq_getElem_cons hlt]
  have : l[k] = t := (List.getElem?_eq_some_iff.1 h).2
  rw [this]
  rfl
/-- A raw term in a box of its own; the box is none of its parts' blocks, and neither are those of bad. -/
structure Bxd (w : World) (C : Nat) (bad : Nat → Prop) (v : Rw) : Prop where
  ex : ∃ x1 n1 x2 x3 n2 x4, Blk w C 27 #[.int .i64 v.kind, .slice x1 n1 x2, .int .i64 v.ty.base, .int .i64 v.idx, .slice x3 n2 x4] ∧ Holds w (fun b => b ≠ C ∧ ¬ bad b) v.ty.args (.slice x1 n1 x2) ∧ HoldsR w (fun b => b ≠ C ∧ ¬ bad b) v.kids (.slice x3 n2 x4)
theorem Bxd.keep {w w' : World} {C : Nat} {bad bad' : Nat → Prop} {v : Rw} (h : Bxd w C bad v) (hC : w'.heap[C]? = w.heap[C]?) (hk : ∀ b, b < w.heap.size → ¬ bad b → w'.heap[b]? = w.heap[b]? ∧ ¬ bad' b) : Bxd w' C bad' v := by
  obtain ⟨x1, n1, x2, x3, n2, x4, h1, h2, h3⟩ := h.ex
  exact ⟨x1, n1, x2, x3, n2, x4, hC.trans h1, h2.keep fun b hb ho => ⟨(hk b hb ho.2).1, ho.1, (hk b hb ho.2).2⟩, h3.keep fun b hb ho => ⟨(hk b hb ho.2).1, ho.1, (hk b hb ho.2).2⟩⟩

end Go.Proofs.Ytckagmagjogmnaa
