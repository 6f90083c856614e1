/-
  A region that draws its order, of operations that read or call, and of boxes that are made on the way and filled at the end.
-/
import Derived.Test.YtheokboggjnenaaSpineU
import Derived.Test.YtheokboggjnenaaOnly
namespace Go.Proofs.Ytheokboggjnenaa
open Go Go.RowKit

/-- A box: its slot, the slot that is stored into it, its type and zero cells, the operation that makes it, by which stage, the one that stores. -/
structure Bx where
  slot : Nat
  src : Nat
  ty : TypeId
  zero : Array Value
  at' : Nat
  lev : Nat
  st : Nat

/-- The cells of a value. -/
def vcells : Value → Array Value
  | .agg a => a
  | v => #[v]
abbrev ptrTo (b : Nat) : Value := .pointer (some ⟨b, 0, none⟩)
theorem ptrTo_inj {a b : Nat} (h : ptrTo a = ptrTo b) : a = b := by injection h with h; injection h with h; injection h
/-- The blocks that are no boxes. -/
def Out (bs : List Bx) (u : Nat → Value) (b : Nat) : Prop := ∀ x ∈ bs, u x.slot ≠ ptrTo b

def boxB (ops : Array Oper) (free : List (Nat × Nat)) (bs : List Bx) : Bool :=
  (free.all fun y => match ops[y.1]? with
    | none => true
    | some o => (List.range bs.length).all fun k => match bs[k]? with
      | none => true
      | some x => !(o.dst == some x.slot) && (!(o.dst == some x.src) || decide (y.2 ≤ k)) && (o.looksAt ops).all (fun s => !(s == x.slot))) &&
  ((List.range bs.length).all fun k => match bs[k]? with
    | none => true
    | some x => decide (x.lev ≤ k) && (bs.all fun y => !(x.src == y.slot)) && (match ops[x.at']? with | none => true | some o => o.dst == some x.slot) &&
      (match ops[x.st]? with | none => true | some o => o.dst == none && (o.looksAt ops).contains x.slot && (o.looksAt ops).contains x.src)) && decide (bs.map (·.slot)).Nodup
def nopB (a : Act) (bs : List Bx) : Bool := bs.all fun x => match (a.tmps[x.slot]?).getD undef with
  | .pointer _ => false
  | _ => true

def VB (V : Nat → World → (Nat → Prop) → Value → Prop) (W : World) (bs : List Bx) (p s : Nat) (w : World) (u : Nat → Value) : Prop :=
  (∀ k x, bs[k]? = some x → x.slot = s → ∃ n, u s = ptrTo n ∧ W.heap.size ≤ n ∧ Blk w n x.ty (if k < p then vcells (u x.src) else x.zero)) ∧ ((∀ x ∈ bs, x.slot ≠ s) → V s w (Out bs u) (u s))
structure CB (W : World) (bs : List Bx) (w : World) (u : Nat → Value) : Prop where
  bel : Below W.heap.size W w
  old : ∀ x ∈ bs, ∀ n, u x.slot = ptrTo n → n < w.heap.size
  dis : ∀ (k k' : Nat) (x y : Bx), bs[k]? = some x → bs[k']? = some y → k ≠ k' → ∀ n, u x.slot = ptrTo n → u y.slot ≠ ptrTo n

variable {F : Fence} {n : Nat} {P : Program} {ops : Array Oper} {Q : Exit → Act → World → Prop} {md : Region.Mode}

/-- What one that reads or calls owes. -/
def OwesV (F : Fence) (n : Nat) (P : Program) (ops : Array Oper) (Q : Exit → Act → World → Prop) (b : Nat → Bool) (a0 : Act) (V : Nat → World → (Nat → Prop) → Value → Prop) (W : World) (o : Oper) : Prop :=
  ∀ (u : Nat → Value) (ok : Nat → Prop) (w : World), Below W.heap.size W w → (∀ s ∈ o.looksAt ops, b s = true → V s w ok (u s)) → ∀ K' : Act → World → Prop, (∀ v w', (∀ s, o.dst = some s → V s w' (fun m => w.heap.size ≤ m ∨ ok m) v) → Below w.heap.size w w' → K' ((over b u a0).put o.dst v) w') →
    if Region.wanted o (yielded ops (over b u a0).tmps) = true then Oper.wpIn F n P o (over b u a0) w K' Q else (∀ f, o.about P w (over b u a0).eval = some f → F.fn f) ∧ K' ((over b u a0).put o.dst undef) w
def OwesVs (F : Fence) (n : Nat) (P : Program) (ops : Array Oper) (Q : Exit → Act → World → Prop) (b : Nat → Bool) (a0 : Act) (V : Nat → World → (Nat → Prop) → Value → Prop) (W : World) : List (Nat × Nat) → Prop
  | [] => True
  | (i, _) :: r => (∀ o, ops[i]? = some o → OwesV F n P ops Q b a0 V W o) ∧ OwesVs F n P ops Q b a0 V W r
/-- What one that makes a box owes. -/
def OwesA (F : Fence) (n : Nat) (P : Program) (ops : Array Oper) (Q : Exit → Act → World → Prop) (b : Nat → Bool) (a0 : Act) (x : Bx) (o : Oper) : Prop :=
  ∀ (u : Nat → Value) (w : World) (K' : Act → World → Prop), K' ((over b u a0).put o.dst (ptrTo w.heap.size)) (w.alloc (.cells x.zero x.ty)) →
    if Region.wanted o (yielded ops (over b u a0).tmps) = true then Oper.wpIn F n P o (over b u a0) w K' Q else (∀ f, o.about P w (over b u a0).eval = some f → F.fn f) ∧ K' ((over b u a0).put o.dst undef) w
/-- What one that fills a box owes. -/
def OwesT (F : Fence) (n : Nat) (P : Program) (ops : Array Oper) (Q : Exit → Act → World → Prop) (b : Nat → Bool) (a0 : Act) (V : Nat → World → (Nat → Prop) → Value → Prop) (x : Bx) (o : Oper) : Prop :=
  ∀ (u : Nat → Value) (ok : Nat → Prop) (w : World) (m : Nat), u x.slot = ptrTo m → Blk w m x.ty x.zero → V x.src w ok (u x.src) → ∀ K' : Act → World → Prop, (∀ w', Blk w' m x.ty (vcells (u x.src)) → Only [m] w w' → K' (over b u a0) w') →
    if Region.wanted o (yielded ops (over b u a0).tmps) = true then Oper.wpIn F n P o (over b u a0) w K' Q else (∀ f, o.about P w (over b u a0).eval = some f → F.fn f) ∧ K' ((over b u a0).put o.dst undef) w
def OwesBs (F : Fence) (n : Nat) (P : Program) (ops : Array Oper) (Q : Exit → Act → World → Prop) (b : Nat → Bool) (a0 : Act) (V : Nat → World → (Nat → Prop) → Value → Prop) : List Bx → Prop
  | [] => True
  | x :: r => ((∀ o, ops[x.at']? = some o → OwesA F n P ops Q b a0 x o) ∧ (∀ o, ops[x.st]? = some o → OwesT F n P ops Q b a0 V x o)) ∧ OwesBs F n P ops Q b a0 V r
theorem OwesVs.mem {b : Nat → Bool} {a0 : Act} {V : Nat → World → (Nat → Prop) → Value → Prop} {W : World} : ∀ {free : List (Nat × Nat)}, OwesVs F n P ops Q b a0 V W free → ∀ i l o, (i, l) ∈ free → ops[i]? = some o → OwesV F n P ops Q b a0 V W o
  | [], _, i, l, o, h, _ => by cases h
  | (j, m) :: r, hO, i, l, o, h, ho => by
    rcases List.mem_cons.1 h with e | h
    · cases e
      exact hO.1 o ho
    · exact OwesVs.mem hO.2 i l o h ho
theorem OwesBs.mem {b : Nat → Bool} {a0 : Act} {V : Nat → World → (Nat → Prop) → Value → Prop} : ∀ {bs : List Bx}, OwesBs F n P ops Q b a0 V bs → ∀ x ∈ bs, (∀ o, ops[x.at']? = some o → OwesA F n P ops Q b a0 x o) ∧ (∀ o, ops[x.st]? = some o → OwesT F n P ops Q b a0 V x o)
  | [], _, x, h => by cases h
  | y :: r, hO, x, h => by
    rcases List.mem_cons.1 h with e | h
    · subst e
      exact hO.1
    · exact OwesBs.mem hO.2 x h

theorem box_free {free : List (Nat × Nat)} {bs : List Bx} (h : boxB ops free bs = true) {i l : Nat} {o : Oper} (hi : (i, l) ∈ free) (ho : ops[i]? = some o) {k : Nat} {x : Bx} (hx : bs[k]? = some x) :
    o.dst ≠ some x.slot ∧ (o.dst = some x.src → l ≤ k) ∧ ∀ s ∈ o.looksAt ops, s ≠ x.slot := by
  unfold boxB at h
  rw [Bool.and_eq_true, Bool.and_eq_true] at h
  have h1 := List.all_eq_true.1 h.1.1 (i, l) hi
  simp only [ho] at h1
  have h2 := List.all_eq_true.1 h1 k (List.mem_range.2 (List.getElem?_eq_some_iff.1 hx).1)
  simp only [hx, Bool.and_eq_true] at h2
  obtain ⟨⟨h3, h4⟩, h5⟩ := h2
  refine ⟨fun e => by rw [e] at h3; simp at h3, fun e => ?_, fun s hs e => ?_⟩
  · rw [e] at h4
    simpa using h4
  · have := List.all_eq_true.1 h5 s hs
    rw [e] at this
    simp at this
theorem box_of {free : List (Nat × Nat)} {bs : List Bx} (h : boxB ops free bs = true) {k : Nat} {x : Bx} (hx : bs[k]? = some x) :
    x.lev ≤ k ∧ (∀ y ∈ bs, x.src ≠ y.slot) ∧ (∀ o, ops[x.at']? = some o → o.dst = some x.slot) ∧ ∀ o, ops[x.st]? = some o → o.dst = none ∧ x.slot ∈ o.looksAt ops ∧ x.src ∈ o.looksAt ops := by
  unfold boxB at h
  rw [Bool.and_eq_true, Bool.and_eq_true] at h
  have h1 := List.all_eq_true.1 h.1.2 k (List.mem_range.2 (List.getElem?_eq_some_iff.1 hx).1)
  simp only [hx, Bool.and_eq_true, decide_eq_true_eq] at h1
  obtain ⟨⟨⟨h2, h3⟩, h4⟩, h5⟩ := h1
  refine ⟨h2, fun y hy e => ?_, fun o ho => ?_, fun o ho => ?_⟩
  · have := List.all_eq_true.1 h3 y hy
    rw [e] at this
    simp at this
  · rw [ho] at h4
    simpa using h4
  · rw [ho] at h5
    simp only [Bool.and_eq_true, List.contains_iff_mem, beq_iff_eq] at h5
    exact ⟨h5.1.1, h5.1.2, h5.2⟩

theorem box_inj {free : List (Nat × Nat)} {bs : List Bx} (h : boxB ops free bs = true) {k k' : Nat} {x y : Bx} (hx : bs[k]? = some x) (hy : bs[k']? = some y) (e : x.slot = y.slot) : k = k' := by
  unfold boxB at h
  rw [Bool.and_eq_true, decide_eq_true_eq] at h
  refine (List.getElem?_inj (l := bs.map (·.slot)) (by rw [List.length_map]; exact (List.getElem?_eq_some_iff.1 hx).1) h.2).1 ?_
  rw [List.getElem?_map, List.getElem?_map, hx, hy]
  exact congrArg some e

theorem upd_some (u : Nat → Value) (d : Nat) (v : Value) (j : Nat) : upd u (some d) v j = if j = d then v else u j := rfl

/-- A REGION THAT DRAWS, WITH BOXES. -/
theorem region_boxes {id : Nat} {a : Act} {w : World} {l : List Oper} (free : List (Nat × Nat)) (bs : List Bx) (b : Nat → Bool) (V : Nat → World → (Nat → Prop) → Value → Prop) (hmx : P.follows .mixedOrders = true)
    (hS : spineB .any l.toArray (free ++ bs.map fun x => (x.at', x.lev)) (bs.map (·.st)) = true) (hdst : dstB l.toArray b = true) (hlook : lookB .any l.toArray b = true) (hbox : boxB l.toArray free bs = true) (hbs : (bs.all fun x => b x.slot && b x.src) = true) (hnop : nopB a bs = true)
    (hV : ∀ s w w' (ok ok' : Nat → Prop) v, V s w ok v → w.heap.size ≤ w'.heap.size → (∀ m, m < w.heap.size → ok m → w'.heap[m]? = w.heap[m]? ∧ ok' m) → V s w' ok' v)
    (hfree : OwesVs F n P l.toArray Q b a V w free) (hbx : OwesBs F n P l.toArray Q b a V bs)
    (hend : ∀ u w', Below w.heap.size w w' → (∀ s ∈ l.filterMap (·.dst), (∀ x ∈ bs, x.slot ≠ s) → V s w' (Out bs u) (u s)) → (∀ x ∈ bs, ∃ m, u x.slot = ptrTo m ∧ w.heap.size ≤ m ∧ Blk w' m x.ty (vcells (u x.src))) → Q .normal (over b u a) w') :
    (Code.region id l.toArray true).wpIn F n P Q a w := by
  have hS' := spineB_spec hS
  have hst : ∀ (k i : Nat), (bs.map (fun y : Bx => y.st))[k]? = some i → ∃ x, bs[k]? = some x ∧ x.st = i := fun k i h => by
    rw [List.getElem?_map] at h
    exact Option.map_eq_some_iff.1 h
  refine wpIn_region_any hmx (any_spineU b a (VB V w bs) (fun _ => CB w bs) hS' hdst hlook ?_ ?_ ?_ _ ?_)
  · intro i lv o hi ho p hpl _ u w1 hc hk K' hK
    rcases List.mem_append.1 hi with hi | hi
    · have hx := fun {k : Nat} {x : Bx} (h : bs[k]? = some x) => box_free hbox hi ho h
      have hnb : ∀ x ∈ bs, o.dst ≠ some x.slot := fun x hm => by obtain ⟨k, hk9⟩ := List.getElem?_of_mem hm; exact (hx hk9).1
      have hupd : ∀ v, ∀ x ∈ bs, upd u o.dst v x.slot = u x.slot := fun v x hm => by
        cases hd : o.dst with
        | none => rfl
        | some d => rw [upd_some, if_neg (fun e => hnb x hm (by rw [hd, e]))]
      refine hfree.mem i lv o hi ho u (Out bs u) w1 hc.bel (fun s hs hb => (hk s hs hb).2 fun x hm e => by
        obtain ⟨k, hk9⟩ := List.getElem?_of_mem hm
        exact (hx hk9).2.2 s hs e.symm) K' fun v w' hv hB => hK v w' (fun s hs => ⟨fun k x hxk e => absurd (by rw [hs, e]) (hnb x (List.mem_of_getElem? hxk)), fun _ => ?_⟩) (fun s hs hvb => ⟨fun k x hxk e => ?_, fun hno => ?_⟩) ⟨hc.bel.trans (hB.mono hc.bel.size), fun x hm m hm2 => ?_, fun k k' x y h1 h2 h3 m hm2 => ?_⟩
      · have e1 : upd u o.dst v s = v := by rw [hs, upd_some, if_pos rfl]
        rw [e1]
        refine hV s w' w' _ _ v (hv s hs) (Nat.le_refl _) (fun m hm ho => ⟨rfl, fun x hx9 => ?_⟩)
        rw [hupd v x hx9]
        rcases ho with ho | ho
        · intro e
          have := hc.old x hx9 m e
          omega
        · exact ho x hx9
      · obtain ⟨m, h1, h2, h3⟩ := hvb.1 k x hxk e
        have hne : o.dst ≠ some s := hs
        have e1 : ∀ j, o.dst ≠ some j → upd u o.dst v j = u j := fun j hj => by
          cases hd : o.dst with
          | none => rfl
          | some d => rw [upd_some, if_neg (fun e => hj (by rw [hd, e]))]
        refine ⟨m, by rw [e1 s hne]; exact h1, h2, ?_⟩
        have h4 := h3.below hB h3.lt
        by_cases hkp : k < p
        · rw [if_pos hkp] at h4 ⊢
          rw [e1 x.src (fun e9 => by have := (hx hxk).2.1 e9; omega)]
          exact h4
        · rw [if_neg hkp] at h4 ⊢
          exact h4
      · have e1 : upd u o.dst v s = u s := by
          cases hd : o.dst with
          | none => rfl
          | some d => rw [upd_some, if_neg (fun e => hs (by rw [hd, e]))]
        rw [e1]
        refine hV s w1 w' _ _ _ (hvb.2 hno) hB.size (fun m hm ho => ⟨hB.block m hm, fun x hx9 => ?_⟩)
        rw [hupd v x hx9]
        exact ho x hx9
      · rw [hupd v x hm] at hm2
        have := hc.old x hm m hm2
        have := hB.size
        omega
      · rw [hupd v x (List.mem_of_getElem? h1)] at hm2
        rw [hupd v y (List.mem_of_getElem? h2)]
        exact hc.dis k k' x y h1 h2 h3 m hm2
    · obtain ⟨x, hxm, hxe⟩ := List.mem_map.1 hi
      have hxi : x.at' = i := congrArg Prod.fst hxe
      have hxl : x.lev = lv := congrArg Prod.snd hxe
      subst hxi
      subst hxl
      obtain ⟨k0, hk0⟩ := List.getElem?_of_mem hxm
      obtain ⟨hlev, hsrc, hat, _⟩ := box_of hbox hk0
      have hd := hat o ho
      have hB : Below w1.heap.size w1 (w1.alloc (.cells x.zero x.ty)) := (Below.refl _ _).alloc (Nat.le_refl _) _
      have hsz : (w1.alloc (.cells x.zero x.ty)).heap.size = w1.heap.size + 1 := by simp
      refine (hbx.mem x hxm).1 o ho u w1 K' (hK _ _ (fun s hs => ⟨fun k y hyk e => ?_, fun hno => ?_⟩) (fun s hs hvb => ⟨fun k y hyk e => ?_, fun hno => ?_⟩) ⟨hc.bel.trans (hB.mono hc.bel.size), fun y hm m hm2 => ?_, fun k k' y z h1 h2 h3 m hm2 => ?_⟩)
      · rw [hd] at hs ⊢
        cases hs
        rw [upd_some, if_pos rfl]
        have hyx : k = k0 ∨ k ≠ k0 := by omega
        rcases hyx with rfl | hne
        · rw [hk0] at hyk
          cases hyk
          refine ⟨w1.heap.size, rfl, hc.bel.size, ?_⟩
          rw [if_neg (by omega)]
          exact Blk.new w1 _ _
        · exfalso
          exact hne (box_inj hbox hyk hk0 e)
      · rw [hd] at hs
        cases hs
        exact absurd rfl (hno x hxm)
      · rw [hd] at hs ⊢
        have hsx : s ≠ x.slot := fun e9 => hs (by rw [e9])
        obtain ⟨m, h1, h2, h3⟩ := hvb.1 k y hyk e
        refine ⟨m, by rw [upd_some, if_neg hsx]; exact h1, h2, ?_⟩
        have h4 := h3.below hB h3.lt
        by_cases hkp : k < p
        · rw [if_pos hkp] at h4 ⊢
          rw [upd_some, if_neg ((box_of hbox hyk).2.1 x hxm)]
          exact h4
        · rw [if_neg hkp] at h4 ⊢
          exact h4
      · rw [hd] at hs ⊢
        have hsx : s ≠ x.slot := fun e9 => hs (by rw [e9])
        rw [upd_some, if_neg hsx]
        refine hV s w1 _ _ _ _ (hvb.2 hno) hB.size (fun m hm ho => ⟨hB.block m hm, fun y hy => ?_⟩)
        rw [upd_some]
        by_cases hyx : y.slot = x.slot
        · rw [if_pos hyx]
          intro e9
          have := ptrTo_inj e9
          omega
        · rw [if_neg hyx]
          exact ho y hy
      · rw [hd, upd_some] at hm2
        by_cases hyx : y.slot = x.slot
        · rw [if_pos hyx] at hm2
          have := ptrTo_inj hm2
          omega
        · rw [if_neg hyx] at hm2
          have := hc.old y hm m hm2
          omega
      · rw [hd, upd_some] at hm2
        rw [hd, upd_some]
        by_cases hyx : y.slot = x.slot
        · rw [if_pos hyx] at hm2
          have hmm := ptrTo_inj hm2
          by_cases hzx : z.slot = x.slot
          · exact absurd (box_inj hbox h1 h2 (hyx.trans hzx.symm)) h3
          · rw [if_neg hzx]
            intro e9
            have := hc.old z (List.mem_of_getElem? h2) m e9
            omega
        · rw [if_neg hyx] at hm2
          by_cases hzx : z.slot = x.slot
          · rw [if_pos hzx]
            intro e9
            have := ptrTo_inj e9
            have := hc.old y (List.mem_of_getElem? h1) m hm2
            omega
          · rw [if_neg hzx]
            exact hc.dis k k' y z h1 h2 h3 m hm2
  · intro p i o hi ho u w1 hc hk K' hK
    obtain ⟨x, hx, rfl⟩ := hst p i hi
    have hxm := List.mem_of_getElem? hx
    obtain ⟨_, hsrc, _, hso⟩ := box_of hbox hx
    obtain ⟨hd, hl1, hl2⟩ := hso o ho
    have hbx9 := List.all_eq_true.1 hbs x hxm
    rw [Bool.and_eq_true] at hbx9
    have q1 := hk x.slot hl1 hbx9.1
    have q2 := hk x.src hl2 hbx9.2
    obtain ⟨m, h1, h2, h3⟩ := q1.1 p x hx rfl
    rw [if_neg (by omega)] at h3
    have q3 := q2.2 fun y hy e => hsrc y hy e.symm
    have hput : ∀ v, (over b u a).put o.dst v = over b u a := fun v => by rw [hd]; rfl
    have hupd : ∀ v, upd u o.dst v = u := fun v => by rw [hd]; rfl
    have hK2 := fun w' => hK undef w'
    rw [hput] at hK2
    rw [hupd] at hK2
    refine (hbx.mem x hxm).2 o ho u (Out bs u) w1 m h1 h3 q3 K' fun w' hb hO => hK2 w' (fun s hs => by rw [hd] at hs; cases hs) (fun s _ hvb => ⟨fun k y hyk e => ?_, fun hno => ?_⟩) ⟨hc.bel.trans (hO.below hc.bel.size (fun k hk9 => by simp at hk9; omega)), fun y hy m' hm' => Nat.lt_of_lt_of_le (hc.old y hy m' hm') hO.size, hc.dis⟩
    · obtain ⟨m', g1, g2, g3⟩ := hvb.1 k y hyk e
      by_cases hkp : k = p
      · subst hkp
        rw [hx] at hyk
        cases hyk
        refine ⟨m, by rw [← e]; exact h1, h2, ?_⟩
        rw [if_pos (by omega)]
        exact hb
      · have hmm : m' ≠ m := fun e9 => by
          subst e9
          rw [← e] at g1
          exact hc.dis k p y x hyk hx hkp m' g1 h1
        refine ⟨m', g1, g2, ?_⟩
        have g4 := g3.only hO (by simp; omega)
        by_cases hk2 : k < p
        · rw [if_pos (by omega)]
          rw [if_pos hk2] at g4
          exact g4
        · rw [if_neg (by omega)]
          rw [if_neg hk2] at g4
          exact g4
    · refine hV s w1 w' _ _ _ (hvb.2 hno) hO.size (fun m' hm' ho => ⟨hO.block m' hm' ?_, ho⟩)
      simp only [List.mem_singleton]
      intro e9
      subst e9
      exact ho x hxm h1
  · intro u w' hc hv
    refine hend u w' hc.bel (fun s hs hno => ?_) (fun x hx => ?_)
    · obtain ⟨o, ho, hd⟩ := List.mem_filterMap.1 hs
      obtain ⟨i, hi, rfl⟩ := List.getElem_of_mem ho
      exact (hv i _ s (by simp) hd).2 hno
    · obtain ⟨k, hk⟩ := List.getElem?_of_mem hx
      have hkl := (List.getElem?_eq_some_iff.1 hk).1
      have hin := hS'.cover
      obtain ⟨o, ho⟩ : ∃ o, l.toArray[x.at']? = some o := by
        have hmem : (x.at', x.lev) ∈ free ++ bs.map fun x => (x.at', x.lev) := List.mem_append.2 (.inr (List.mem_map.2 ⟨x, hx, rfl⟩))
        rcases hS'.level _ _ hmem with h | ⟨i, h1, h2, _⟩
        · have := (box_of hbox hk).1
          simp at h
          omega
        · exact ⟨_, Array.getElem?_eq_getElem (by omega)⟩
      have hd := (box_of hbox hk).2.2.1 o ho
      obtain ⟨m, h1, h2, h3⟩ := (hv _ o _ ho hd).1 k x hk rfl
      rw [if_pos (by rw [List.length_map]; exact hkl)] at h3
      exact ⟨m, h1, h2, h3⟩
  · refine ⟨(Below.refl _ _).drew, fun x hx m hm => ?_, fun k k' x y h1 h2 h3 m hm => ?_⟩
    · have := List.all_eq_true.1 hnop x hx
      rw [hm] at this
      cases this
    · have := List.all_eq_true.1 hnop x (List.mem_of_getElem? h1)
      rw [hm] at this
      cases this

end Go.Proofs.Ytheokboggjnenaa
