/-
  The contract of place.Of: the place that so many bytes stand ahead of (as at stage 1, over this program's numbers).
-/
import Derived.Test.YtdihplmlbfggjaaDoorLxIter
import Derived.Test.YtdihplmlbfggjaaDoorLxBlk
namespace Go.Proofs.YtdihplmlbfggjaaDoor.Lx
open Go Go.RowKit Go.Shelf Plain

attribute [local go_sem] Oper.semAt_some

theorem keeps_t {B : Nat} {s : ByteArray} {A C D : World} (h : Keeps B s A C) (k : Keeps B s C D) : Keeps B s A D := fun hc => k (h hc)
theorem keeps_b {B : Nat} {s : ByteArray} {w : World} (W : World) (l : Nat) (o o' : Obj) (_ : w.heap.size ≤ l) (h : W.heap[l]? = some o) (hc : o.isCells = false) (_ : o.isWalk = false) : Keeps B s W (W.putObj l o') :=
  fun hq => cell_kept hq (grownBy_putObj' _ l _) (fun r e => by cases e; exact ⟨_, h, hc⟩)

/-- What Of's rounds make of the place, as the machine reckons. -/
def ofAcc (k : Int) (pre : List (Int × ByteArray)) : Int × Int := pre.foldl (fun m y => (m.1 + 1, wrap64 (wrap64 (k - y.1) + 1))) (0, 0)
theorem ofAcc_snoc (k : Int) (pre : List (Int × ByteArray)) (x : Int × ByteArray) : ofAcc k (pre ++ [x]) = ((ofAcc k pre).1 + 1, wrap64 (wrap64 (k - x.1) + 1)) := by simp [ofAcc]
theorem ofAcc_fst (k : Int) (pre : List (Int × ByteArray)) : (ofAcc k pre).1 = (pre.length : Int) := by
  have : ∀ (l : List (Int × ByteArray)) (m : Int × Int), (l.foldl (fun m y => (m.1 + 1, wrap64 (wrap64 (k - y.1) + 1))) m).1 = m.1 + l.length := by
    intro l
    induction l with
    | nil => intro m; simp
    | cons y l ih => intro m; rw [List.foldl_cons, ih]; simp; omega
  have h := this pre (0, 0)
  unfold ofAcc; rw [h]; simp

theorem wrap_sub_add (a b : Int) (h0 : 0 ≤ b) (h1 : b ≤ a) (h2 : a ≤ 4611686018427387904) : wrap64 (wrap64 (a - b) + 1) = a - b + 1 := by
  have e : wrap64 (a - b) = a - b := by unfold wrap64; omega
  rw [e]; unfold wrap64; omega

theorem ofAcc_run (k : Nat) (hk : k ≤ 4611686018427387904) (p : List (Nat × List UInt8)) (h : ∀ y ∈ p, ¬ k < y.1) :
    ofAcc k (p.map conv) = (((ofRun k (0, 0) p).1 : Int), ((ofRun k (0, 0) p).2 : Int)) := by
  have : ∀ (p : List (Nat × List UInt8)) (m : Nat × Nat), (∀ y ∈ p, ¬ k < y.1) → (p.map conv).foldl (fun m y => (m.1 + 1, wrap64 (wrap64 ((k : Int) - y.1) + 1))) ((m.1 : Int), (m.2 : Int)) = (((ofRun k m p).1 : Int), ((ofRun k m p).2 : Int)) := by
    intro p
    induction p with
    | nil => intro m _; simp [ofRun]
    | cons y p ih =>
      intro m hm
      have hy := hm y (by simp)
      simp only [List.map_cons, List.foldl_cons, ofRun, if_neg hy]
      rw [← ih _ (fun z hz => hm z (by simp [hz]))]
      congr 1
      simp only [conv]
      rw [wrap_sub_add _ _ (by omega) (by omega) (by omega)]
      congr 1 <;> omega
  exact this p (0, 0) h

/-- All lines that begin at or ahead of k, then one that begins behind it, or none: the place is the mark. -/
theorem of_front (s : ByteArray) (k : Nat) (hk : k ≤ s.size) (hs : s.size ≤ 4611686018427387904) (pre : List (Int × ByteArray)) (hp : ∀ y ∈ pre, ¬ (k : Int) < y.1)
    (h : pre = allLines s ∨ ∃ x, (k : Int) < x.1 ∧ pre ++ [x] <+: allLines s) :
    ofAcc k pre = (((Plain.mark (s.data.toList.take k)).1 : Int), ((Plain.mark (s.data.toList.take k)).2 : Int)) := by
  have hk' : k ≤ s.data.toList.length := by simpa using hk
  rw [← ofRun_mark _ _ hk']
  rcases h with rfl | ⟨x, hx, t, ht⟩
  · rw [show allLines s = (lns 0 [] s.data.toList).map conv from rfl]
    refine ofAcc_run k (by omega) _ (fun y hy => ?_)
    have := hp (conv y) (List.mem_map_of_mem hy)
    simp only [conv] at this; omega
  · have e1 : (lns 0 [] s.data.toList).map conv = pre ++ (x :: t) := by rw [show (lns 0 [] s.data.toList).map conv = allLines s from rfl, ← ht]; simp
    obtain ⟨p, q, e2, e3, e4⟩ := List.map_eq_append_iff.1 e1
    obtain ⟨x', q', e5, e6, e7⟩ := List.map_eq_cons_iff.1 e4
    rw [e2, e5, ← e3]
    have hp' : ∀ y ∈ p, ¬ k < y.1 := fun y hy => by
      have := hp (conv y) (by rw [← e3]; exact List.mem_map_of_mem hy)
      simp only [conv] at this; omega
    have hx' : k < x'.1 := by rw [← e6] at hx; simp only [conv] at hx; omega
    rw [ofRun_stop k (0, 0) p x' q' hx' hp']
    exact ofAcc_run k (by omega) p hp'

def NotBehind (k : Nat) (pre : List (Int × ByteArray)) : Prop := ∀ y ∈ pre, ¬ (k : Int) < y.1
end Go.Proofs.YtdihplmlbfggjaaDoor.Lx
