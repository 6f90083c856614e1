/-
  A region that draws, with boxes: what is said of a slot may speak of the memory that was there ahead of the region, too.
-/
import Derived.Test.YtckagmagjogmnaaBoxes
import Derived.Test.YtckagmagjogmnaaToR
namespace Go.Proofs.Ytckagmagjogmnaa
open Go Go.RowKit

/-- Blocks below N of these, or of those that are new and no boxes. -/
def Mix (N X : Nat) (oko ok : Nat → Prop) (b : Nat) : Prop := (b < N ∧ oko b) ∨ (X ≤ b ∧ ok b)
theorem Holds.mixkeep {W w w' : World} {N : Nat} {oko ok ok' : Nat → Prop} {ts : List Ty} {v : Value} (h : Holds w (Mix N W.heap.size oko ok) ts v) (hN : N ≤ W.heap.size) (hb1 : Below W.heap.size W w) (hb2 : Below W.heap.size W w') (hkp : ∀ m, m < w.heap.size → ok m → w'.heap[m]? = w.heap[m]? ∧ ok' m) : Holds w' (Mix N W.heap.size oko ok') ts v :=
  h.keep fun b hb ho => by
    rcases ho with ⟨h1, h2⟩ | ⟨h1, h2⟩
    · exact ⟨(hb2.block b (by omega)).trans (hb1.block b (by omega)).symm, .inl ⟨h1, h2⟩⟩
    · exact ⟨(hkp b hb h2).1, .inr ⟨h1, (hkp b hb h2).2⟩⟩
theorem HoldsR.mixkeep {W w w' : World} {N : Nat} {oko ok ok' : Nat → Prop} {ts : List Rw} {v : Value} (h : HoldsR w (Mix N W.heap.size oko ok) ts v) (hN : N ≤ W.heap.size) (hb1 : Below W.heap.size W w) (hb2 : Below W.heap.size W w') (hkp : ∀ m, m < w.heap.size → ok m → w'.heap[m]? = w.heap[m]? ∧ ok' m) : HoldsR w' (Mix N W.heap.size oko ok') ts v :=
  h.keep fun b hb ho => by
    rcases ho with ⟨h1, h2⟩ | ⟨h1, h2⟩
    · exact ⟨(hb2.block b (by omega)).trans (hb1.block b (by omega)).symm, .inl ⟨h1, h2⟩⟩
    · exact ⟨(hkp b hb h2).1, .inr ⟨h1, (hkp b hb h2).2⟩⟩

variable {F : Fence} {n : Nat} {P : Program} {ops : Array Oper} {Q : Exit → Act → World → Prop}

/-- What V says, kept by all later worlds. -/
def VK (W : World) (V : Nat → World → (Nat → Prop) → Value → Prop) (s : Nat) (w : World) (ok : Nat → Prop) (v : Value) : Prop :=
  (∃ w0 ok0, V s w0 ok0 v) ∧ ∀ w2 ok2, Below W.heap.size W w2 → w.heap.size ≤ w2.heap.size → (∀ m, m < w.heap.size → ok m → w2.heap[m]? = w.heap[m]? ∧ ok2 m) → V s w2 ok2 v
def VE (V : Nat → World → (Nat → Prop) → Value → Prop) (s : Nat) (_w : World) (_ok : Nat → Prop) (v : Value) : Prop := ∃ w0 ok0, V s w0 ok0 v
theorem OwesVs.imp {b : Nat → Bool} {a0 : Act} {V V' : Nat → World → (Nat → Prop) → Value → Prop} {W : World} (hi : ∀ o, OwesV F n P ops Q b a0 V W o → OwesV F n P ops Q b a0 V' W o) : ∀ {free : List (Nat × Nat)}, OwesVs F n P ops Q b a0 V W free → OwesVs F n P ops Q b a0 V' W free
  | [], _ => trivial
  | (_, _) :: _, h => ⟨fun o ho => hi o (h.1 o ho), OwesVs.imp hi h.2⟩
theorem OwesBs.imp {b : Nat → Bool} {a0 : Act} {V V' : Nat → World → (Nat → Prop) → Value → Prop} (hi : ∀ x o, OwesT F n P ops Q b a0 V x o → OwesT F n P ops Q b a0 V' x o) : ∀ {bs : List Bx}, OwesBs F n P ops Q b a0 V bs → OwesBs F n P ops Q b a0 V' bs
  | [], _ => trivial
  | x :: _, h => ⟨⟨h.1.1, fun o ho => hi x o (h.1.2 o ho)⟩, OwesBs.imp hi h.2⟩

theorem region_boxesK {id : Nat} {a : Act} {w : World} {l : List Oper} (free : List (Nat × Nat)) (bs : List Bx) (b : Nat → Bool) (V : Nat → World → (Nat → Prop) → Value → Prop) (hmx : P.follows .mixedOrders = true)
    (hS : spineB .any l.toArray (free ++ bs.map fun x => (x.at', x.lev)) (bs.map (·.st)) = true) (hdst : dstB l.toArray b = true) (hlook : lookB .any l.toArray b = true) (hbox : boxB l.toArray free bs = true) (hbs : (bs.all fun x => b x.slot && b x.src) = true) (hnop : nopB a bs = true)
    (hV : ∀ s w1 w2 (ok ok' : Nat → Prop) v, V s w1 ok v → Below w.heap.size w w1 → Below w.heap.size w w2 → w1.heap.size ≤ w2.heap.size → (∀ m, m < w1.heap.size → ok m → w2.heap[m]? = w1.heap[m]? ∧ ok' m) → V s w2 ok' v)
    (hfree : OwesVs F n P l.toArray Q b a V w free) (hbx : OwesBs F n P l.toArray Q b a (VE V) bs)
    (hend : ∀ u w', Below w.heap.size w w' → (∀ s ∈ l.filterMap (·.dst), (∀ x ∈ bs, x.slot ≠ s) → V s w' (Out bs u) (u s)) → (∀ x ∈ bs, ∃ m, u x.slot = ptrTo m ∧ w.heap.size ≤ m ∧ Blk w' m x.ty (vcells (u x.src))) → Q .normal (over b u a) w') :
    (Code.region id l.toArray true).wpIn F n P Q a w := by
  refine region_boxes free bs b (VK w V) hmx hS hdst hlook hbox hbs hnop ?_ ?_ ?_ ?_
  · rintro s w1 w2 ok ok' v ⟨h1, h2⟩ hsz hkp
    exact ⟨h1, fun w3 ok3 hB3 hs3 hk3 => h2 w3 ok3 hB3 (by omega) fun m hm ho => by
      obtain ⟨e1, o1⟩ := hkp m hm ho
      obtain ⟨e2, o2⟩ := hk3 m (by omega) o1
      exact ⟨e2.trans e1, o2⟩⟩
  · refine OwesVs.imp (fun o h => ?_) hfree
    intro u ok w1 hB hk K' hK
    refine h u ok w1 hB (fun s hs hb => (hk s hs hb).2 w1 ok hB (Nat.le_refl _) fun m _ ho => ⟨rfl, ho⟩) K' fun v w' hv hB' => hK v w' (fun s hs => ⟨⟨_, _, hv s hs⟩, fun w2 ok2 h2 h3 h4 => hV s w' w2 _ ok2 v (hv s hs) (hB.trans (hB'.mono hB.size)) h2 h3 h4⟩) hB'
  · refine OwesBs.imp (fun x o h => ?_) hbx
    intro u ok w1 m e1 hk hv
    exact h u ok w1 m e1 hk hv.1
  · intro u w' hB hv hb
    exact hend u w' hB (fun s hs hx => (hv s hs hx).2 w' _ hB (Nat.le_refl _) fun m _ ho => ⟨rfl, ho⟩) hb

end Go.Proofs.Ytckagmagjogmnaa
