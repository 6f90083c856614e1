/-
  HeadsS: several texts in one file: EtaP, HoldT, HeadsS.
-/
import Derived.Test.YtckagmagjogmnaaTm
import Derived.Test.YtckagmagjogmnaaSize
namespace Go.Proofs.Ytckagmagjogmnaa
open Go

/-- A head's index as it is seen from within so many binders. -/
def insI (k i : Int) (n : Nat) : Int := if k = 0 then i + n else i
mutual
/-- The long form of a head whose type has these arguments. -/
def etaK (k i : Int) : List Ty → Tm
  | [] => .mk [] k (insI k i 0) []
  | t :: r => .mk (t :: r) k (insI k i (r.length + 1)) (etaY r.length t :: etaL r)
/-- The long form of a variable of this type. -/
def etaY (m : Nat) : Ty → Tm
  | .mk l _ => etaK 0 m l
/-- The variables that so many types bind, the first one outermost. -/
def etaL : List Ty → List Tm
  | [] => []
  | t :: r => etaY r.length t :: etaL r
end
theorem etaY_eq (m : Nat) (t : Ty) : etaY m t = etaK 0 m t.args := by cases t; rw [etaY]; rfl
theorem etaK_eq (k i : Int) (l : List Ty) : etaK k i l = .mk l k (insI k i l.length) (etaL l) := by
  cases l with
  | nil => rw [etaK, etaL]; rfl
  | cons t r => rw [etaK, etaL]; rfl
theorem etaK_binds (k i : Int) (l : List Ty) : (etaK k i l).binds = l := by rw [etaK_eq]; rfl
theorem etaK_kind (k i : Int) (l : List Ty) : (etaK k i l).kind = k := by rw [etaK_eq]; rfl
theorem etaK_idx (k i : Int) (l : List Ty) : (etaK k i l).idx = insI k i l.length := by rw [etaK_eq]; rfl
theorem etaK_args (k i : Int) (l : List Ty) : (etaK k i l).args = etaL l := by rw [etaK_eq]; rfl
theorem etaL_length (l : List Ty) : (etaL l).length = l.length := by
  induction l with
  | nil => rw [etaL]; rfl
  | cons t r ih => rw [etaL, List.length_cons, List.length_cons, ih]
theorem etaL_get (l : List Ty) (j : Nat) (t : Ty) (h : l[j]? = some t) : (etaL l)[j]? = some (etaK 0 ((l.length : Int) - 1 - j) t.args) := by
  induction l generalizing j with
  | nil => simp at h
  | cons u r ih =>
    rw [etaL]
    cases j with
    | zero =>
      obtain rfl : u = t := by simpa using h
      rw [List.getElem?_cons_zero, etaY_eq, show ((u :: r).length : Int) - 1 - ((0 : Nat) : Int) = (r.length : Int) by simp]
    | succ j =>
      rw [List.getElem?_cons_succ, ih j (by simpa using h)]
      rw [show ((u :: r).length : Int) - 1 - ((j + 1 : Nat) : Int) = (r.length : Int) - 1 - (j : Int) by simp; omega]
theorem etaL_take (l : List Ty) (j : Nat) (t : Ty) (h : l[j]? = some t) : (etaL l).take (j + 1) = (etaL l).take j ++ [etaK 0 ((l.length : Int) - 1 - j) t.args] := by
  rw [List.take_add_one, etaL_get l j t h]; rfl

theorem sizeT_etaL (l : List Ty) (h : ∀ t ∈ l, ∀ m, (etaY m t).size = t.size) : sizeT (etaL l) = sizeL l := by
  induction l with
  | nil => rw [etaL]; rfl
  | cons t r ih => rw [etaL, sizeT, sizeL, h t (by simp), ih (fun u hu => h u (by simp [hu]))]
theorem etaY_size (t : Ty) : ∀ m, (etaY m t).size = t.size := by
  induction t using Ty.ind with
  | h t ih =>
    intro m
    rw [etaY_eq, Tm.size_eq, etaK_args, sizeT_etaL _ ih, t.size_eq]
theorem etaK_size (k i : Int) (l : List Ty) : (etaK k i l).size = 1 + sizeL l := by
  rw [Tm.size_eq, etaK_args, sizeT_etaL _ (fun t _ => etaY_size t)]

/-- Whether a term is the long form of a head whose type has these arguments. -/
def isEta (t : Tm) (k i : Int) (l : List Ty) : Bool := t.same (etaK k i l)
theorem isEta_self (k i : Int) (l : List Ty) : isEta (etaK k i l) k i l = true := Tm.same_self _

end Go.Proofs.Ytckagmagjogmnaa

namespace Go.Proofs.Ytckagmagjogmnaa
open Go Go.RowKit

/-- THE SLICE v HOLDS JUST THESE TERMS, in blocks that ok lets by: a term has four cells: its binders' slice, its head's kind and index, its arguments' slice. -/
inductive HoldsT (w : World) (ok : Nat → Prop) : List Tm → Value → Prop
  | mk (ts : List Tm) (a : Option Addr) (cap : Nat) (f r : Nat → Value) (hcap : ts.length ≤ cap) (hnil : a = none → cap = 0)
    (hc : ∀ i t, ts[i]? = some t → ∃ g o, a = some ⟨g, o, none⟩ ∧ ok g ∧ w.cell? ⟨g, o + i * 4, none⟩ = some (f i) ∧ w.cell? ⟨g, o + i * 4 + 1, none⟩ = some (.int .i64 t.kind) ∧ w.cell? ⟨g, o + i * 4 + 2, none⟩ = some (.int .i64 t.idx) ∧ w.cell? ⟨g, o + i * 4 + 3, none⟩ = some (r i))
    (hb : ∀ i t, ts[i]? = some t → Holds w ok t.binds (f i))
    (hr : ∀ i t, ts[i]? = some t → HoldsT w ok t.args (r i)) : HoldsT w ok ts (.slice a ts.length cap)

theorem HoldsT.shape {w : World} {ok : Nat → Prop} {ts : List Tm} {v : Value} (h : HoldsT w ok ts v) : ∃ a cap, v = .slice a ts.length cap ∧ ts.length ≤ cap ∧
    ∀ i t, ts[i]? = some t → ∃ g o s r, a = some ⟨g, o, none⟩ ∧ ok g ∧ g < w.heap.size ∧ w.cell? ⟨g, o + i * 4, none⟩ = some s ∧ w.cell? ⟨g, o + i * 4 + 1, none⟩ = some (.int .i64 t.kind) ∧ w.cell? ⟨g, o + i * 4 + 2, none⟩ = some (.int .i64 t.idx) ∧ w.cell? ⟨g, o + i * 4 + 3, none⟩ = some r ∧ Holds w ok t.binds s ∧ HoldsT w ok t.args r := by
  cases h with
  | mk ts a cap f r hcap hnil hc hb hr =>
    refine ⟨a, cap, rfl, hcap, fun i t ht => ?_⟩
    obtain ⟨g, o, h1, h2, h3, h4, h5, h6⟩ := hc i t ht
    exact ⟨g, o, f i, r i, h1, h2, lt_of_cell h3, h3, h4, h5, h6, hb i t ht, hr i t ht⟩
theorem HoldsT.keep {w w' : World} {ok ok' : Nat → Prop} {ts : List Tm} {v : Value} (h : HoldsT w ok ts v) (hb : ∀ b, b < w.heap.size → ok b → w'.heap[b]? = w.heap[b]? ∧ ok' b) : HoldsT w' ok' ts v := by
  induction h with
  | mk ts a cap f r hcap hnil hc hbn hr ih =>
    refine .mk ts a cap f r hcap hnil (fun i t ht => ?_) (fun i t ht => (hbn i t ht).keep hb) ih
    obtain ⟨g, o, h1, h2, h3, h4, h5, h6⟩ := hc i t ht
    have hk := hb g (lt_of_cell h3) h2
    exact ⟨g, o, h1, hk.2, (World.cell?_of_block (w := w) (a := ⟨g, o + i * 4, none⟩) hk.1).trans h3, (World.cell?_of_block (w := w) (a := ⟨g, o + i * 4 + 1, none⟩) hk.1).trans h4, (World.cell?_of_block (w := w) (a := ⟨g, o + i * 4 + 2, none⟩) hk.1).trans h5, (World.cell?_of_block (w := w) (a := ⟨g, o + i * 4 + 3, none⟩) hk.1).trans h6⟩
theorem HoldsT.mono {w : World} {ok ok' : Nat → Prop} {ts : List Tm} {v : Value} (h : HoldsT w ok ts v) (hb : ∀ b, b < w.heap.size → ok b → ok' b) : HoldsT w ok' ts v := h.keep fun b hl ho => ⟨rfl, hb b hl ho⟩
theorem HoldsT.bel {w w' : World} {ok : Nat → Prop} {ts : List Tm} {v : Value} (h : HoldsT w ok ts v) (hb : Below w.heap.size w w') : HoldsT w' ok ts v := h.keep fun b hl ho => ⟨hb.block b hl, ho⟩
theorem HoldsT.drew {w : World} {ok : Nat → Prop} {ts : List Tm} {v : Value} (h : HoldsT w ok ts v) : HoldsT w.drew ok ts v := h.keep fun _ _ ho => ⟨rfl, ho⟩
theorem HoldsT.alloc {w : World} {ok : Nat → Prop} {ts : List Tm} {v : Value} (h : HoldsT w ok ts v) (o : Obj) : HoldsT (w.alloc o) ok ts v := h.bel ((Below.refl _ _).alloc (Nat.le_refl _) o)
theorem HoldsT.nil (w : World) (ok : Nat → Prop) (a : Option Addr) (cap : Nat) (h : a = none → cap = 0) : HoldsT w ok [] (.slice a 0 cap) := .mk [] a cap (fun _ => .slice none 0 0) (fun _ => .slice none 0 0) (Nat.zero_le _) h (fun i t h => by simp at h) (fun i t h => by simp at h) (fun i t h => by simp at h)
theorem HoldsT.ofnil {w : World} {ok : Nat → Prop} {n cap : Nat} {a : Option Addr} (h : HoldsT w ok [] (.slice a n cap)) (ok' : Nat → Prop) (w' : World) : HoldsT w' ok' [] (.slice a n cap) := by
  generalize hv : Value.slice a n cap = v at h
  generalize hts : ([] : List Tm) = ts at h
  cases h with
  | mk ts a' cap' f r hcap hnil hc hb hr =>
    subst hts
    cases hv
    exact HoldsT.nil _ _ _ _ hnil

/-- A term, as a value. -/
abbrev tmv (s : Value) (k i : Int) (r : Value) : Value := .agg #[s, .int .i64 k, .int .i64 i, r]

end Go.Proofs.Ytckagmagjogmnaa

namespace Go.Proofs.Ytckagmagjogmnaa
open Go Go.RowKit

/-- A head, as a value. -/
abbrev hv (k i : Int) : Value := .agg #[.int .i64 k, .int .i64 i]

theorem below_two (w : World) (a b : Obj) : Below w.heap.size w ((w.alloc a).alloc b) := ((Below.refl _ _).alloc (Nat.le_refl _) a).alloc (by simp) b

end Go.Proofs.Ytckagmagjogmnaa

