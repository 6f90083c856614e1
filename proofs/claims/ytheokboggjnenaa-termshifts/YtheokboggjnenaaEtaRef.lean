/-
  The contract of the document's eta: the long form of a head, whose binders are told as they lie.
-/
import Derived.Test.YtheokboggjnenaaVarE
import Derived.Test.YtheokboggjnenaaSpine
namespace Go.Proofs.Ytheokboggjnenaa
open Go Go.RowKit Go.Sort

/-- THE SLICE v OF TERMS IS BEING MADE, of what lies in blocks that ok lets by. -/
structure MkQ (w : World) (M : Nat) (ok : Nat → Prop) (e : TypeId) (v : Value) (ps : List Tc) : Prop where
  row : w.ownsRow M e 4 v ps.length (tcells ps)
  bnd : ∀ p ∈ ps, Holds w (fun b => ok b ∧ v.ownBlock ≠ some b) p.t.binds p.sb
  kid : ∀ p ∈ ps, HoldsT w (fun b => ok b ∧ v.ownBlock ≠ some b) p.t.args p.sr
theorem MkQ.nil (w : World) (M : Nat) (ok : Nat → Prop) (e : TypeId) : MkQ w M ok e (.slice none 0 0) [] := ⟨World.ownsRow_nil w M e 4, (fun p hp => by cases hp), (fun p hp => by cases hp)⟩
theorem MkQ.keep {w w' : World} {M : Nat} {ok : Nat → Prop} {e : TypeId} {v : Value} {ps : List Tc} (h : MkQ w M ok e v ps) (hM : ∀ b, M ≤ b → b < w.heap.size → w'.heap[b]? = w.heap[b]?) (hk : ∀ b, ok b → b < w.heap.size → w'.heap[b]? = w.heap[b]?) : MkQ w' M ok e v ps := by
  refine ⟨?_, fun p hp => (h.bnd p hp).keep fun b hb ho => ⟨hk b ho.1 hb, ho⟩, fun p hp => (h.kid p hp).keep fun b hb ho => ⟨hk b ho.1 hb, ho⟩⟩
  obtain ⟨h1, h2⟩ := h.row
  refine ⟨h1, ?_⟩
  rcases h2 with h2 | ⟨g, cap, cur, e1, e2, e3, e4⟩
  · exact .inl h2
  · refine .inr ⟨g, cap, cur, e1, e2, ?_, e4⟩
    have hlt : g < w.heap.size := (Array.getElem?_eq_some_iff.1 e3).1
    rw [hM g e2 hlt]
    exact e3
theorem MkQ.bel {w w' : World} {M : Nat} {ok : Nat → Prop} {e : TypeId} {v : Value} {ps : List Tc} (h : MkQ w M ok e v ps) (hb : Below w.heap.size w w') : MkQ w' M ok e v ps := h.keep (fun b _ hl => hb.block b hl) (fun b _ hl => hb.block b hl)
theorem MkQ.alloc {w : World} {M : Nat} {ok : Nat → Prop} {e : TypeId} {v : Value} {ps : List Tc} (h : MkQ w M ok e v ps) (o : Obj) : MkQ (w.alloc o) M ok e v ps := h.bel ((Below.refl _ _).alloc (Nat.le_refl _) o)
theorem MkQ.drew {w : World} {M : Nat} {ok : Nat → Prop} {e : TypeId} {v : Value} {ps : List Tc} (h : MkQ w M ok e v ps) : MkQ w.drew M ok e v ps := h.keep (fun _ _ _ => rfl) (fun _ _ _ => rfl)
theorem MkQ.set {w : World} {M : Nat} {ok : Nat → Prop} {e : TypeId} {v : Value} {ps : List Tc} (h : MkQ w M ok e v ps) {R : Nat} (hR : R < M) (hn : ¬ ok R) (i : Nat) (u : Value) : MkQ (w.setCell ⟨R, i, none⟩ u) M ok e v ps :=
  h.keep (fun b hb _ => Below.heap_setCell w ⟨R, i, none⟩ u b (show b ≠ R by omega)) (fun b hb _ => Below.heap_setCell w ⟨R, i, none⟩ u b (fun e => hn (by have e' : b = R := e; rw [← e']; exact hb)))
theorem MkQ.lt {w : World} {M : Nat} {ok : Nat → Prop} {e : TypeId} {v : Value} {ps : List Tc} (h : MkQ w M ok e v ps) (b : Nat) (hb : v.ownBlock = some b) : M ≤ b ∧ b < w.heap.size := h.row.lt b hb
theorem MkQ.snoc {w w3 : World} {M k : Nat} {ok : Nat → Prop} {e : TypeId} {v : Value} {ps : List Tc} {x : Tc} {g cap : Nat} (h : MkQ w M ok e v ps) (hk : ps.length = k) (hb : Holds w (fun b => ok b ∧ v.ownBlock ≠ some b) x.t.binds x.sb) (hs : HoldsT w (fun b => ok b ∧ v.ownBlock ≠ some b) x.t.args x.sr)
    (hg : w.grownBy w3 v.ownBlock) (hat : v.ownBlock = some g ∨ g = w.heap.size)
    (hown : w3.ownsRow M e 4 (.slice (some ⟨g, 0, none⟩) (k + 1) cap) (k + 1) (tcells ps ++ [x.sb, .int .i64 x.t.kind, .int .i64 x.t.idx, x.sr])) : MkQ w3 M ok e (.slice (some ⟨g, 0, none⟩) (k + 1) cap) (ps ++ [x]) := by
  have hgo : (Value.slice (some ⟨g, 0, none⟩) (k + 1) cap).ownBlock = some g := rfl
  have hold : ∀ b, b < w.heap.size → (ok b ∧ v.ownBlock ≠ some b) → w3.heap[b]? = w.heap[b]? ∧ ok b ∧ (Value.slice (some ⟨g, 0, none⟩) (k + 1) cap).ownBlock ≠ some b := fun b hb ho => by
    refine ⟨hg.block b hb (fun e => ho.2 e.symm), ho.1, ?_⟩
    rw [hgo]
    intro e
    cases e
    rcases hat with h1 | h1
    · exact ho.2 h1
    · omega
  refine ⟨by rw [List.length_append, tcells_append, hk]; exact hown, fun p hp => ?_, fun p hp => ?_⟩
  · rcases List.mem_append.1 hp with hp | hp
    · exact (h.bnd p hp).keep hold
    · obtain rfl : p = x := by simpa using hp
      exact hb.keep hold
  · rcases List.mem_append.1 hp with hp | hp
    · exact (h.kid p hp).keep hold
    · obtain rfl : p = x := by simpa using hp
      exact hs.keep hold
theorem MkQ.holds {w : World} {M : Nat} {ok : Nat → Prop} {e : TypeId} {v : Value} {ps : List Tc} (h : MkQ w M ok e v ps) : HoldsT w (fun b => ok b ∨ M ≤ b) (ps.map (·.t)) v := by
  have h' := h.row
  obtain ⟨h1, h2⟩ := h.row
  rcases h2 with ⟨rfl, h2⟩ | ⟨g, cap, cur, rfl, e2, e3, e4, e5, e6⟩
  · have : ps = [] := List.eq_nil_of_length_eq_zero h2
    subst this
    exact HoldsT.nil _ _ _ _ (fun _ => rfl)
  · have hc := World.ownsRow.cellAt h'
    have hq : ∀ (i : Nat) (u : Tm), (ps.map (·.t))[i]? = some u → ∃ p : Tc, ps[i]? = some p ∧ p.t = u := by
      intro i u hi
      rw [List.getElem?_map] at hi
      exact Option.map_eq_some_iff.1 hi
    have := HoldsT.mk (w := w) (ok := fun b => ok b ∨ M ≤ b) (ps.map (·.t)) (some ⟨g, 0, none⟩) cap (fun i => ((ps[i]?).map (·.sb)).getD undef) (fun i => ((ps[i]?).map (·.sr)).getD undef) (by simpa using e4) (fun h => by cases h)
      (fun i u hi => by
        obtain ⟨p, hp, rfl⟩ := hq i u hi
        obtain ⟨c0, c1, c2, c3⟩ := tcells_get ps i p hp
        have hil := (List.getElem?_eq_some_iff.1 hp).1
        refine ⟨g, 0, rfl, .inr e2, ?_, ?_, ?_, ?_⟩
        · rw [Nat.zero_add, hc _ (by omega), c0, hp]; rfl
        · rw [Nat.zero_add, hc _ (by omega), c1]
        · rw [Nat.zero_add, hc _ (by omega), c2]
        · rw [Nat.zero_add, hc _ (by omega), c3, hp]; rfl)
      (fun i u hi => by
        obtain ⟨p, hp, rfl⟩ := hq i u hi
        rw [hp]
        exact (h.bnd p (List.mem_of_getElem? hp)).mono fun b _ ho => .inl ho.1)
      (fun i u hi => by
        obtain ⟨p, hp, rfl⟩ := hq i u hi
        rw [hp]
        exact (h.kid p (List.mem_of_getElem? hp)).mono fun b _ ho => .inl ho.1)
    rwa [List.length_map] at this
theorem holdsT_set4 {w : World} {ok ok' : Nat → Prop} {ts : List Tm} {v : Value} {g : Nat} (h : HoldsT w ok ts v) (hg : ∀ b, b < w.heap.size → ok b → b ≠ g ∧ ok' b) (x0 x1 x2 x3 : Value) : HoldsT ((((w.setCell ⟨g, 0, none⟩ x0).setCell ⟨g, 1, none⟩ x1).setCell ⟨g, 2, none⟩ x2).setCell ⟨g, 3, none⟩ x3) ok' ts v :=
  h.keep fun b hb ho => ⟨(Below.heap_setCell _ ⟨g, 3, none⟩ x3 b (hg b hb ho).1).trans ((Below.heap_setCell _ ⟨g, 2, none⟩ x2 b (hg b hb ho).1).trans ((Below.heap_setCell _ ⟨g, 1, none⟩ x1 b (hg b hb ho).1).trans (Below.heap_setCell w ⟨g, 0, none⟩ x0 b (hg b hb ho).1))), (hg b hb ho).2⟩

/-- An operation's own word, inside the wide fence. -/
theorem wpIn_of_wp {n : Nat} {P : Program} {o : Oper} {a : Act} {w : World} {K : Act → World → Prop} {Q : Exit → Act → World → Prop} (h : Oper.wp P o a w K Q) : Oper.wpIn Fence.wide n P o a w K Q := by
  refine ⟨fun _ _ => trivial, ?_⟩
  unfold Oper.wp at h
  show o.uponIn Fence.wide n P a K Q ((o.semAt none a.eval).run P w)
  rw [Oper.semAt_none]
  generalize (execOp a.eval o).run P w = r at *
  cases r with
  | ok x w' =>
    cases x <;> simp only [Oper.upon, Oper.uponIn] at h ⊢
    case value u => exact h
    case skip => exact h
    case defer d => exact h
    case enter f args => exact ⟨(fun h => by cases h), callsIn_wide.2 h⟩
    case row row args => exact ⟨(fun h => by cases h), fun c cs _ => let ⟨v, w'', h1, h2⟩ := h c cs; ⟨v, w'', h1, stepsIn_wide.2 h2⟩⟩
    all_goals exact h.elim
  | halt x w' => cases x <;> simp only [Oper.upon, Oper.uponIn] at h ⊢ <;> exact h

theorem append_in {n : Nat} {P : Program} {w : World} {o : Oper} {a : Act} {K : Act → World → Prop} {Q : Exit → Act → World → Prop} (hgd : o.guard = none) (s x : Operand) (t : TypeId)
    (ho : o.op = .call { callee := .builtin .append, args := #[s, x], argTypes := #[t, t] })
    (base : Nat) (e : TypeId) (i : TypeInfo) (z : Value) (size bytes : Nat) (ht : P.underlying t = some (.slice e)) (hi : P.info? e = some i) (hz : i.zero = some z)
    (hsize : i.size = size) (hby : i.bytes = bytes) (hzs : z.cells.size = size) (hsz : 0 < size)
    (v : Value) (k : Nat) (xs : List Value) (hs : a.eval s = v) (hown : w.ownsRow base e size v k xs)
    (ad : Addr) (m c : Nat) (news : List Value) (hx : a.eval x = .slice (some ad) m c) (hl : news.length = m * size) (hnews : ∀ j u, news[j]? = some u → w.cell? (ad.add j) = some u) (h1 : ∀ u ∈ news, u.oneCell' = true)
    (hm : 0 < m) (h63 : k + m ≤ maxLen) (hbytes : (k + m) * bytes ≤ 140737488355328) (hbase : base ≤ w.heap.size)
    (h : ∀ g cap w', w'.ownsRow base e size (.slice (some ⟨g, 0, none⟩) (k + m) cap) (k + m) (xs ++ news) → w.grownBy w' v.ownBlock → (v.ownBlock = some g ∨ g = w.heap.size) → g < w'.heap.size → K (a.put o.dst (.slice (some ⟨g, 0, none⟩) (k + m) cap)) w') :
    Oper.wpIn Fence.wide n P o a w K Q := by
  have := step_append_lies w (E := True) (ops := #[]) (Q := Q) hgd s x t ho base e i z size bytes ht hi hz hsize hby hzs hsz v k xs hs hown ad m c news hx hl hnews h1 hm h63 hbytes hbase w.heap.size rfl h
  rw [if_pos (by simp [Region.wanted, hgd])] at this
  exact wpIn_of_wp this

theorem grownBy_bel {a w w' : World} {row : Option Nat} (h : a.grownBy w row) (hb : Below w.heap.size w w') : a.grownBy w' row :=
  ⟨hb.os.trans h.os, hb.tape.trans h.tape, hb.output.trans h.output, Nat.le_trans h.size hb.size, fun k hk hn => (hb.block k (Nat.lt_of_lt_of_le hk h.size)).trans (h.block k hk hn)⟩
def actE8 (N R nn j : Nat) (y0 y1 y2 y4 y8 y9 y10 y11 y12 y13 y14 y15 y16 y17 y18 y19 y20 y21 y22 y23 y24 y25 y26 y27 y28 y45 : Value) (u : Nat → Value) : Act :=
  { tmps := #[y0, y1, y2, .pointer (some ⟨N + 1, 0, none⟩), y4, .int .i64 (nn : Int), .pointer (some ⟨R, 0, none⟩), .int .i64 (j : Int), y8, y9, y10, y11, y12, y13, y14, y15, y16, y17, y18, y19, y20, y21, y22, y23, y24, y25, y26, y27, y28, u 29, u 30, u 31, u 32, u 33, u 34, u 35, u 36, u 37, u 38, u 39, u 40, u 41, u 42, u 43, u 44, y45], defers := [] }
theorem over_actE8 (N R nn j : Nat) (y0 y1 y2 y4 y8 y9 y10 y11 y12 y13 y14 y15 y16 y17 y18 y19 y20 y21 y22 y23 y24 y25 y26 y27 y28 y45 : Value) (u0 u : Nat → Value) : over (fun s => Nat.ble 29 s && Nat.ble s 44) u (actE8 N R nn j y0 y1 y2 y4 y8 y9 y10 y11 y12 y13 y14 y15 y16 y17 y18 y19 y20 y21 y22 y23 y24 y25 y26 y27 y28 y45 u0) = actE8 N R nn j y0 y1 y2 y4 y8 y9 y10 y11 y12 y13 y14 y15 y16 y17 y18 y19 y20 y21 y22 y23 y24 y25 y26 y27 y28 y45 u := rfl
def VE8 (N R M nn j g o cap : Nat) (okq : Nat → Prop) (bz : Int) (vk sv : Value) (vt : Tm) (cs : List Tm) (p s : Nat) (w : World) (v : Value) : Prop := match s with
  | 29 => v = .pointer (some ⟨R, 3, none⟩)
  | 30 => v = vk
  | 31 => v = .int .i64 (nn : Int)
  | 32 => v = .int .i64 ((nn : Int) - 1)
  | 33 => v = .int .i64 (j : Int)
  | 34 => v = .int .i64 ((nn : Int) - 1 - (j : Int))
  | 35 => v = .agg #[.int .i64 0, .int .i64 ((nn : Int) - 1 - (j : Int))]
  | 36 => v = .pointer (some ⟨N + 1, 0, none⟩)
  | 37 => v = .slice (some ⟨g, o, none⟩) nn cap
  | 38 => v = .int .i64 (j : Int)
  | 39 => v = .pointer (some ⟨g, o + j * 2, none⟩)
  | 40 => v = tv sv bz
  | 41 => p = 0 → ∃ e1 en e2 e3 em e4, v = tmv (.slice e1 en e2) vt.kind vt.idx (.slice e3 em e4) ∧ Holds w (fun b => okq b ∧ vk.ownBlock ≠ some b) vt.binds (.slice e1 en e2) ∧ HoldsT w (fun b => okq b ∧ vk.ownBlock ≠ some b) vt.args (.slice e3 em e4)
  | 42 => p = 0 → ∃ g e1 en e2 e3 em e4, v = .slice (some ⟨g, 0, none⟩) 1 1 ∧ Blk w g 27 #[.slice e1 en e2, .int .i64 vt.kind, .int .i64 vt.idx, .slice e3 em e4] ∧ Holds w (fun b => okq b ∧ vk.ownBlock ≠ some b) vt.binds (.slice e1 en e2) ∧ HoldsT w (fun b => okq b ∧ vk.ownBlock ≠ some b) vt.args (.slice e3 em e4)
  | 43 => 1 ≤ p ∧ (∃ g cap, v = .slice (some ⟨g, 0, none⟩) (j + 1) cap) ∧ ∃ ps, MkQ w M okq 27 (v) ps ∧ ps.length = j + 1 ∧ ps.map (·.t) = cs ++ [vt]
  | 44 => v = .pointer (some ⟨R, 3, none⟩)
  | _ => True
theorem VE8.mono {N R M nn j g o cap : Nat} {okq : Nat → Prop} {bz : Int} {vk sv : Value} {vt : Tm} {cs : List Tm} {p s : Nat} {w w' : World} {v : Value} (h : VE8 N R M nn j g o cap okq bz vk sv vt cs p s w v) (hb : Below w.heap.size w w') : VE8 N R M nn j g o cap okq bz vk sv vt cs p s w' v := by
  revert h
  unfold VE8
  split <;> intro h
  · exact h
  · exact h
  · exact h
  · exact h
  · exact h
  · exact h
  · exact h
  · exact h
  · exact h
  · exact h
  · exact h
  · exact h
  · exact fun e0 => by obtain ⟨e1, en, e2, e3, em, e4, h1, h2, h3⟩ := h e0; exact ⟨e1, en, e2, e3, em, e4, h1, h2.bel hb, h3.bel hb⟩
  · exact fun e0 => by obtain ⟨g, e1, en, e2, e3, em, e4, h1, h2, h3, h4⟩ := h e0; exact ⟨g, e1, en, e2, e3, em, e4, h1, h2.below hb h2.lt, h3.bel hb, h4.bel hb⟩
  · exact ⟨h.1, h.2.1, (by obtain ⟨ps, h8, h9⟩ := h.2.2; exact ⟨ps, h8.bel hb, h9⟩)⟩
  · exact h
  · trivial
def CE8 (W : World) (R M j : Nat) (okq : Nat → Prop) (va vk : Value) (kk xx : Int) (vt : Tm) (cs : List Tm) (p : Nat) (w : World) : Prop :=
  (p = 0 → Below W.heap.size W w) ∧ (p = 1 → W.grownBy w (vk).ownBlock) ∧ (p = 2 → ∃ v', Blk w R 27 #[va, .int .i64 kk, .int .i64 xx, v'] ∧ (∃ ps, MkQ w M okq 27 (v') ps ∧ ps.length = j + 1 ∧ ps.map (·.t) = cs ++ [vt]) ∧ (∃ w1, W.grownBy w1 (vk).ownBlock ∧ Only [R] w1 w))
theorem CE8.mono {W : World} {R M j : Nat} {okq : Nat → Prop} {va vk : Value} {kk xx : Int} {vt : Tm} {cs : List Tm} {p : Nat} {w w' : World} (h : CE8 W R M j okq va vk kk xx vt cs p w) (hb : Below w.heap.size w w') : CE8 W R M j okq va vk kk xx vt cs p w' :=
  ⟨fun e => (h.1 e).trans (hb.mono (h.1 e).size), fun e => grownBy_bel (h.2.1 e) hb, fun e => by
    obtain ⟨v', h1, h2, w1, h3, h4⟩ := h.2.2 e
    exact ⟨v', h1.below hb h1.lt, (by obtain ⟨ps, h8, h9⟩ := h2; exact ⟨ps, h8.bel hb, h9⟩), w1, h3, h4.trans (Only.of_below' hb)⟩⟩

/-- eta's own word of some types -/
def EtaAt (ts : List Ty) : Prop := ∀ (ok : Nat → Prop) (sl : Value) (w : World) (k i b : Int), Holds w ok ts sl → sizeL ts ≤ 1000000 → (k = 0 → -1000000000 ≤ i) → (k = 0 → i ≤ 9223372036854775807 - ts.length) →
    Calls Try.prog 88 #[hv k i, tv sl b] w fun e w' => ∃ vb vr, e = .returned (tmv vb k (insI k i ts.length) vr) ∧ Holds w' (fun b => ok b ∨ w.heap.size ≤ b) ts vb ∧ HoldsT w' (fun b => ok b ∨ w.heap.size ≤ b) (etaL ts) vr ∧ Below w.heap.size w w'

set_option maxRecDepth 100000 in
set_option maxHeartbeats 1000000 in
theorem eta_list (ts : List Ty) (ih : ∀ u ∈ ts, EtaAt u.args) : EtaAt ts := by
  intro ok sl w k i b hb hsz hk1 hk2
  obtain ⟨a, cap, rfl, hcap, hat⟩ := hb.shape
  have HA : Hid _ := hat
  have hln := sizeL_length ts
  have HSZ : Hid (∀ u ∈ ts, sizeL u.args ≤ 1000000) := fun u hu => by have h1 := size_mem hu; have h2 := u.size_eq; omega
  obtain ⟨N, hN⟩ : ∃ N, w.heap.size = N := ⟨_, rfl⟩
  have HN : Hid (w.heap.size = N) := hN
  obtain ⟨x, hx⟩ : ∃ x, insI k i ts.length = x := ⟨_, rfl⟩
  have HX : Hid (insI k i ts.length = x) := hx
  rw [hN, hx]
  clear hat hx
  obtain ⟨W0, hW0⟩ : ∃ W0, ((w.alloc (.cells #[.int .i64 k, .int .i64 i] 24)).alloc (.cells #[.slice a ts.length cap, .int .i64 b] 55)).alloc (.cells #[.slice none 0 0, .int .i64 0, .int .i64 0, .slice none 0 0] 27) = W0 := ⟨_, rfl⟩
  have b1 : Blk W0 (N + 1) 55 #[.slice a ts.length cap, .int .i64 b] := by rw [← hW0]; exact (Blk.new' _ (N + 1) 55 _ (by simp [hN])).alloc _
  have b2 : Blk W0 (N + 2) 27 #[.slice none 0 0, .int .i64 0, .int .i64 0, .slice none 0 0] := by rw [← hW0]; exact Blk.new' _ (N + 2) 27 _ (by simp [hN])
  have b0 : Blk W0 N 24 #[.int .i64 k, .int .i64 i] := by rw [← hW0]; exact ((Blk.new' w N 24 _ hN).alloc _).alloc _
  have hz0 : W0.heap.size = N + 3 := by rw [← hW0]; simp [hN]
  have bl0 : Below N w W0 := by rw [← hW0]; exact (((Below.refl N w).alloc (by omega) _).alloc (by simp; omega) _).alloc (by simp; omega) _
  have HW : Hid _ := hW0
  have hl2 : ts.length ≤ 1000000 := by omega
  have c0 := b0.cell 0
  have c1 := b0.cell 1
  have c2 := b1.cell 0
  obtain ⟨W1, hW1⟩ : ∃ W1, W0.alloc (.cells #[.slice a ts.length cap, .int .i64 k, .int .i64 i, .slice none 0 0] 27) = W1 := ⟨_, rfl⟩
  obtain ⟨W2, hW2⟩ : ∃ W2, W0.alloc (.cells #[.slice a ts.length cap, .int .i64 k, .int .i64 x, .slice none 0 0] 27) = W2 := ⟨_, rfl⟩
  have HW2 : Hid _ := hW2
  clear hW0 hW1 hW2
  go_enter Try.func88, Try.ntmps88
  go_upto_region 1 with fail
  rw [HW.out]
  clear HW
  go_upto_if 17 with fail
  go_cut [] (fun wx => wx = W2)
  case first =>
    by_cases hk : k = 0
    · have z1 : (k == 0) = true := by simp [hk]
      have h1 := hk1 hk
      have h2 := hk2 hk
      obtain rfl : x = i + ts.length := by rw [← HX.out]; unfold insI; rw [if_pos hk]
      clear hk hk1 hk2 HX
      go_wp2_with fail
      go_meet
      exact HW2.out
    · have z1 : (k == 0) = false := by simp [hk]
      obtain rfl : x = i := by rw [← HX.out]; unfold insI; rw [if_neg hk]
      clear hk hk1 hk2 HX
      go_wp2_with fail
      go_meet
      exact HW2.out
  case rest =>
  subst hcut
  have b1c : Blk wc (N + 1) 55 #[.slice a ts.length cap, .int .i64 b] := by rw [← HW2.out]; exact b1.alloc _
  have b2c : Blk wc (N + 2) 27 #[.slice none 0 0, .int .i64 0, .int .i64 0, .slice none 0 0] := by rw [← HW2.out]; exact b2.alloc _
  have bRc : Blk wc (N + 3) 27 #[.slice a ts.length cap, .int .i64 k, .int .i64 x, .slice none 0 0] := by rw [← HW2.out]; exact Blk.new' _ (N + 3) 27 _ hz0
  have hzc : wc.heap.size = N + 4 := by rw [← HW2.out]; simp [hz0]
  have blc : Below N w wc := by rw [← HW2.out]; exact bl0.alloc (by omega) _
  obtain ⟨R, hR⟩ : ∃ R, N + 3 = R := ⟨_, rfl⟩
  obtain ⟨M, hM⟩ : ∃ M, N + 4 = M := ⟨_, rfl⟩
  have hb9 : Holds w (fun b => ok b ∧ b < N) ts (.slice a ts.length cap) := hb.mono fun b h1 h2 => ⟨h2, by omega⟩
  rw [hR] at bRc ⊢
  rw [hM] at hzc
  have HIH : Hid (∀ u ∈ ts, EtaAt u.args) := ih
  obtain ⟨i0, hi, hz0', hz1, hz2⟩ := info_parts info27
  obtain ⟨okq, hokq⟩ : ∃ okq : Nat → Prop, okq = fun b => (ok b ∧ b < N) ∨ M ≤ b := ⟨_, rfl⟩
  have HOK : Hid _ := hokq
  have hnR : ¬ okq R := by rw [hokq]; intro h; rcases h with h | h <;> omega
  clear b0 b1 b2 bl0 hz0 ih hb hsz hln hk1 hk2 HW2 HX c0 c1 c2 hokq
  go_wp2_with fail
  go_loopw [7] (fun i wr => ∃ (j : Nat) (vk : Value) (ps : List Tc), j ≤ ts.length ∧ i = .int .i64 j ∧ Hid (ps.map (·.t) = (etaL ts).take j) ∧ Blk wr (N + 1) 55 #[.slice a ts.length cap, .int .i64 b] ∧ Blk wr (N + 2) 27 #[.slice none 0 0, .int .i64 0, .int .i64 0, .slice none 0 0] ∧ Blk wr R 27 #[.slice a ts.length cap, .int .i64 k, .int .i64 x, vk] ∧ M ≤ wr.heap.size ∧ MkQ wr M okq 27 vk ps ∧ Below N w wr)
    (fun i _ => ts.length - (intOf i).toNat)
  case atStart => exact ⟨0, _, [], Nat.zero_le _, rfl, rfl, b1c, b2c, bRc, (by omega), MkQ.nil _ _ _ _, blc⟩
  case round =>
    clear b1c b2c bRc blc hzc
    obtain ⟨j, vk, ps, hj, rfl, HP, hb1, hb2, hbR, hMw, hmk, hbl⟩ := hrel
    have hpl : ps.length = j := by have := congrArg List.length HP.out; simp [etaL_length] at this; omega
    by_cases hlt : j < ts.length
    · subst hpl
      obtain ⟨j, hjj⟩ : ∃ j, ps.length = j := ⟨_, rfl⟩
      rw [hjj] at hlt hj HP ⊢
      have HKK : Hid (ps.length = j) := hjj
      clear hjj
      obtain ⟨u, hu⟩ : ∃ u, ts[j]? = some u := ⟨_, List.getElem?_eq_getElem hlt⟩
      obtain ⟨g, o, s, rfl, _, hg, a0, a1, hs⟩ := HA.out j u hu
      rw [HN.out] at hg
      have q0 := (cat hbl hg).trans a0
      have q1 := (cat hbl hg).trans a1
      have hm := List.mem_of_getElem? hu
      have y1 : (0 : Int) ≤ (j : Int) := by omega
      have y2 : (j : Int) < (ts.length : Int) := by omega
      obtain ⟨vt, hve⟩ : ∃ v, etaK 0 ((ts.length : Int) - 1 - j) u.args = v := ⟨_, rfl⟩
      have hvk : Hid (vt.kind = 0) := by show _ = _; rw [← hve, etaK_kind]
      have hvi : Hid (vt.idx = insI 0 ((ts.length : Int) - 1 - j) u.args.length) := by show _ = _; rw [← hve, etaK_idx]
      have hvbn : Hid (vt.binds = u.args) := by show _ = _; rw [← hve, etaK_binds]
      have hva : Hid (vt.args = etaL u.args) := by show _ = _; rw [← hve, etaK_args]
      have HP2 : Hid (ps.map (·.t) ++ [vt] = (etaL ts).take (j + 1)) := by show _ = _; rw [HP.out, etaL_take ts j u hu, hve]
      have hs2 : Holds wr (fun b => ok b ∧ b < N) u.args s := (hs.mono fun b h1 h2 => ⟨h2, by have := HN.out; omega⟩).bel (by rw [HN.out]; exact hbl)
      have HL : Hid (∀ b, vk.ownBlock = some b → M ≤ b ∧ b < wr.heap.size) := fun b hb => hmk.lt b hb
      have hnoR : vk.ownBlock ≠ some R := fun e => by have := (hmk.lt R e).1; omega
      have hn1 : vk.ownBlock ≠ some (N + 1) := fun e => by have := (hmk.lt (N + 1) e).1; omega
      have hn2 : vk.ownBlock ≠ some (N + 2) := fun e => by have := (hmk.lt (N + 2) e).1; omega
      obtain ⟨s1, s2, rfl, _⟩ := hs.shape
      generalize hsn : u.args.length = sn at *
      have hRw : R < wr.heap.size := hbR.lt
      have hcall9 : ∀ w, Below wr.heap.size wr w → Calls Try.prog 88 #[hv 0 ((ts.length : Int) - 1 - j), tv (.slice s1 sn s2) u.base] w fun e w' => ∃ e1 en e2 e3 em e4, e = .returned (tmv (.slice e1 en e2) vt.kind vt.idx (.slice e3 em e4)) ∧ Holds w' (fun b => okq b ∧ vk.ownBlock ≠ some b) vt.binds (.slice e1 en e2) ∧ HoldsT w' (fun b => okq b ∧ vk.ownBlock ≠ some b) vt.args (.slice e3 em e4) ∧ Below w.heap.size w w' := fun w hB =>
        (HIH.out u hm _ _ w 0 ((ts.length : Int) - 1 - j) u.base (hs2.bel hB) (HSZ.out u hm) (fun _ => by omega) (fun _ => by have := sizeL_length u.args; have := HSZ.out u hm; omega)).mono fun e w' ⟨vb, vr, h1, h2, h3, h4⟩ => by
          obtain ⟨e1, e2, rfl, _⟩ := h2.shape
          obtain ⟨e3, e4, rfl, _⟩ := h3.shape
          have hokk : ∀ c, c < w'.heap.size → ((ok c ∧ c < N) ∨ w.heap.size ≤ c) → okq c ∧ vk.ownBlock ≠ some c := fun c _ h => by
            have hws := hB.size
            refine ⟨?_, fun e => ?_⟩
            · rw [HOK.out]
              rcases h with h | h
              · exact .inl h
              · exact .inr (by omega)
            · have := HL.out c e
              rcases h with h | h <;> omega
          refine ⟨e1, _, e2, e3, _, e4, ?_, by rw [hvbn.out]; exact h2.mono hokk, by rw [hva.out]; exact h3.mono hokk, h4⟩
          rw [h1, hvk.out, hvi.out, hsn]
      have HPX : Hid ((etaL ts).take j ++ [vt] = (etaL ts).take (j + 1)) := by show _ = _; rw [etaL_take ts j u hu, hve]
      have hgw : g < wr.heap.size := by have := hbl.size; omega
      clear a0 a1 hu hs hs2 hve hsn
      go_upto_region 8 with fail
      rename_i K Q' hKs
      refine (wpIn_wide (n := 9)).1 ?_
      show Code.wpIn Fence.wide 9 Try.prog (Code.region 8 _ true) _ (actE8 N R ts.length j (hv k i) (tv (Value.slice (some { block := g, off := o }) ts.length cap) b) (Value.pointer (some { block := N, off := 0 })) (Value.pointer (some { block := N + 1 + 1, off := 0 })) (u8) (u9) (u10) (u11) (u12) (u13) (u14) (u15) (u16) (u17) (u18) (u19) (u20) (u21) (u22) (u23) (Value.int IntKind.i64 ↑j) (Value.int IntKind.i64 ↑ts.length) (Value.bool true) (u27) (u28) (u45) (fun | 29 => u29 | 30 => u30 | 31 => u31 | 32 => u32 | 33 => u33 | 34 => u34 | 35 => u35 | 36 => u36 | 37 => u37 | 38 => u38 | 39 => u39 | 40 => u40 | 41 => u41 | 42 => u42 | 43 => u43 | 44 => u44 | _ => undef)) wr
      refine region_spine [(0, 0), (1, 0), (2, 0), (3, 0), (4, 0), (5, 0), (6, 0), (7, 0), (8, 0), (9, 0), (10, 0), (11, 0), (12, 0), (13, 0), (15, 1)] [14, 16] (fun s => Nat.ble 29 s && Nat.ble s 44) (VE8 N R M ts.length j g o cap okq u.base vk (.slice s1 sn s2) vt ((etaL ts).take j)) (CE8 wr R M j okq (.slice (some ⟨g, o, none⟩) ts.length cap) vk k x vt ((etaL ts).take j)) (by kernel_rfl) (by kernel_rfl) (by kernel_rfl) (by kernel_rfl) (fun _ _ _ _ _ h hb => h.mono hb) (fun _ _ _ h hb => h.mono hb) ⟨fun _ => (Below.refl _ _).drew, (fun e => by cases e), (fun e => by cases e)⟩ ⟨?_, ?_, ?_, ?_, ?_, ?_, ?_, ?_, ?_, ?_, ?_, ?_, ?_, ?_, ?_, trivial⟩ ⟨?_, ?_, trivial⟩ ?_
      · intro o ho p hp _ z w hC hk K' hK
        cases ho
        obtain rfl : p = 0 := by omega
        have hB := hC.1 rfl
        have hK3 := hK (.pointer (some ⟨R, 3, none⟩)) w (fun s hs => by cases hs; exact rfl) (Below.refl _ _)
        simp only [over_actE8] at hK3 ⊢
        clear hK hk
        unfold actE8 at hK3 ⊢
        refine want_plain rfl ?_
        go_simp
        exact hK3
      · intro o ho p hp _ z w hC hk K' hK
        cases ho
        obtain rfl : p = 0 := by omega
        have hB := hC.1 rfl
        have e29 : z 29 = .pointer (some ⟨R, 3, none⟩) := hk 29 (by decide +kernel) rfl
        have g0 := (cat hB hbR.lt).trans (hbR.cell 3)
        have hK3 := hK (vk) w (fun s hs => by cases hs; exact rfl) (Below.refl _ _)
        simp only [over_actE8] at hK3 ⊢
        clear hK hk
        unfold actE8 at hK3 ⊢
        simp only [e29] at hK3 ⊢
        refine want_plain rfl ?_
        go_simp
        exact hK3
      · intro o ho p hp _ z w hC hk K' hK
        cases ho
        obtain rfl : p = 0 := by omega
        have hB := hC.1 rfl
        have hK3 := hK (.int .i64 (ts.length : Int)) w (fun s hs => by cases hs; exact rfl) (Below.refl _ _)
        simp only [over_actE8] at hK3 ⊢
        clear hK hk
        unfold actE8 at hK3 ⊢
        refine want_plain rfl ?_
        go_simp
        exact hK3
      · intro o ho p hp _ z w hC hk K' hK
        cases ho
        obtain rfl : p = 0 := by omega
        have hB := hC.1 rfl
        have e31 : z 31 = .int .i64 (ts.length : Int) := hk 31 (by decide +kernel) rfl
        have g0 : IntKind.i64.wrap ((ts.length : Int) - 1) = (ts.length : Int) - 1 := by rw [IntKind.wrap_i64]; omega
        have hK3 := hK (.int .i64 ((ts.length : Int) - 1)) w (fun s hs => by cases hs; exact rfl) (Below.refl _ _)
        simp only [over_actE8] at hK3 ⊢
        clear hK hk
        unfold actE8 at hK3 ⊢
        simp only [e31] at hK3 ⊢
        refine want_plain rfl ?_
        go_simp
        exact hK3
      · intro o ho p hp _ z w hC hk K' hK
        cases ho
        obtain rfl : p = 0 := by omega
        have hB := hC.1 rfl
        have hK3 := hK (.int .i64 (j : Int)) w (fun s hs => by cases hs; exact rfl) (Below.refl _ _)
        simp only [over_actE8] at hK3 ⊢
        clear hK hk
        unfold actE8 at hK3 ⊢
        refine want_plain rfl ?_
        go_simp
        exact hK3
      · intro o ho p hp _ z w hC hk K' hK
        cases ho
        obtain rfl : p = 0 := by omega
        have hB := hC.1 rfl
        have e32 : z 32 = .int .i64 ((ts.length : Int) - 1) := hk 32 (by decide +kernel) rfl
        have e33 : z 33 = .int .i64 (j : Int) := hk 33 (by decide +kernel) rfl
        have g0 : IntKind.i64.wrap ((ts.length : Int) - 1 - (j : Int)) = (ts.length : Int) - 1 - (j : Int) := by rw [IntKind.wrap_i64]; omega
        have hK3 := hK (.int .i64 ((ts.length : Int) - 1 - (j : Int))) w (fun s hs => by cases hs; exact rfl) (Below.refl _ _)
        simp only [over_actE8] at hK3 ⊢
        clear hK hk
        unfold actE8 at hK3 ⊢
        simp only [e32, e33] at hK3 ⊢
        refine want_plain rfl ?_
        go_simp
        exact hK3
      · intro o ho p hp _ z w hC hk K' hK
        cases ho
        obtain rfl : p = 0 := by omega
        have hB := hC.1 rfl
        have e34 : z 34 = .int .i64 ((ts.length : Int) - 1 - (j : Int)) := hk 34 (by decide +kernel) rfl
        have hK3 := hK (.agg #[.int .i64 0, .int .i64 ((ts.length : Int) - 1 - (j : Int))]) w (fun s hs => by cases hs; exact rfl) (Below.refl _ _)
        simp only [over_actE8] at hK3 ⊢
        clear hK hk
        unfold actE8 at hK3 ⊢
        simp only [e34] at hK3 ⊢
        refine want_plain rfl ?_
        go_simp
        exact hK3
      · intro o ho p hp _ z w hC hk K' hK
        cases ho
        obtain rfl : p = 0 := by omega
        have hB := hC.1 rfl
        have hK3 := hK (.pointer (some ⟨N + 1, 0, none⟩)) w (fun s hs => by cases hs; exact rfl) (Below.refl _ _)
        simp only [over_actE8] at hK3 ⊢
        clear hK hk
        unfold actE8 at hK3 ⊢
        refine want_plain rfl ?_
        go_simp
        exact hK3
      · intro o ho p hp _ z w hC hk K' hK
        cases ho
        obtain rfl : p = 0 := by omega
        have hB := hC.1 rfl
        have e36 : z 36 = .pointer (some ⟨N + 1, 0, none⟩) := hk 36 (by decide +kernel) rfl
        have g0 := (cat hB hb1.lt).trans (hb1.cell 0)
        have hK3 := hK (.slice (some ⟨g, o, none⟩) ts.length cap) w (fun s hs => by cases hs; exact rfl) (Below.refl _ _)
        simp only [over_actE8] at hK3 ⊢
        clear hK hk
        unfold actE8 at hK3 ⊢
        simp only [e36] at hK3 ⊢
        refine want_plain rfl ?_
        go_simp
        exact hK3
      · intro o ho p hp _ z w hC hk K' hK
        cases ho
        obtain rfl : p = 0 := by omega
        have hB := hC.1 rfl
        have hK3 := hK (.int .i64 (j : Int)) w (fun s hs => by cases hs; exact rfl) (Below.refl _ _)
        simp only [over_actE8] at hK3 ⊢
        clear hK hk
        unfold actE8 at hK3 ⊢
        refine want_plain rfl ?_
        go_simp
        exact hK3
      · intro o ho p hp _ z w hC hk K' hK
        cases ho
        obtain rfl : p = 0 := by omega
        have hB := hC.1 rfl
        have e37 : z 37 = .slice (some ⟨g, o, none⟩) ts.length cap := hk 37 (by decide +kernel) rfl
        have e38 : z 38 = .int .i64 (j : Int) := hk 38 (by decide +kernel) rfl
        have hK3 := hK (.pointer (some ⟨g, o + j * 2, none⟩)) w (fun s hs => by cases hs; exact rfl) (Below.refl _ _)
        simp only [over_actE8] at hK3 ⊢
        clear hK hk
        unfold actE8 at hK3 ⊢
        simp only [e37, e38] at hK3 ⊢
        refine want_plain rfl ?_
        go_simp
        exact hK3
      · intro o ho p hp _ z w hC hk K' hK
        cases ho
        obtain rfl : p = 0 := by omega
        have hB := hC.1 rfl
        have e39 : z 39 = .pointer (some ⟨g, o + j * 2, none⟩) := hk 39 (by decide +kernel) rfl
        have g0 := (cat hB hgw).trans q0
        have g1 := (cat hB hgw).trans q1
        have hK3 := hK (tv (.slice s1 sn s2) u.base) w (fun s hs => by cases hs; exact rfl) (Below.refl _ _)
        simp only [over_actE8] at hK3 ⊢
        clear hK hk
        unfold actE8 at hK3 ⊢
        simp only [e39] at hK3 ⊢
        refine want_plain rfl ?_
        go_simp
        exact hK3
      · intro o ho p hp _ z w hC hk K' hK
        cases ho
        obtain rfl : p = 0 := by omega
        have hB := hC.1 rfl
        have e35 : z 35 = .agg #[.int .i64 0, .int .i64 ((ts.length : Int) - 1 - (j : Int))] := hk 35 (by decide +kernel) rfl
        have e40 : z 40 = tv (.slice s1 sn s2) u.base := hk 40 (by decide +kernel) rfl
        have hcall := hcall9 w hB
        have hK3 := fun (w2 : World) (e1 : Option Addr) (en e2 : Nat) (e3 : Option Addr) (em e4 : Nat) (hv2 : Holds w2 (fun b => okq b ∧ vk.ownBlock ≠ some b) vt.binds (.slice e1 en e2)) (hv3 : HoldsT w2 (fun b => okq b ∧ vk.ownBlock ≠ some b) vt.args (.slice e3 em e4)) (hb2 : Below w.heap.size w w2) => hK (tmv (.slice e1 en e2) vt.kind vt.idx (.slice e3 em e4)) w2 (fun s hs => by cases hs; exact fun _ => ⟨e1, en, e2, e3, em, e4, rfl, hv2, hv3⟩) hb2
        simp only [over_actE8] at hK3 ⊢
        clear hK hk
        unfold actE8 at hK3 ⊢
        simp only [e35, e40] at hK3 ⊢
        refine want_plain rfl ?_
        go_simp
        refine ⟨trivial, (callsIn_wide.2 hcall).mono ?_⟩
        rintro e w2 ⟨e1, en, e2, e3, em, e4, rfl, hv2, hv3, hb2⟩
        exact hK3 w2 e1 en e2 e3 em e4 hv2 hv3 hb2
      · intro o ho p hp _ z w hC hk K' hK
        cases ho
        obtain rfl : p = 0 := by omega
        have hB := hC.1 rfl
        obtain ⟨e1, en, e2, e3, em, e4, e41, h41, h41t⟩ := hk 41 (by decide +kernel) rfl rfl
        have hK3 := hK (.slice (some ⟨w.heap.size, 0, none⟩) 1 1) (w.alloc (.cells #[.slice e1 en e2, .int .i64 vt.kind, .int .i64 vt.idx, .slice e3 em e4] 27)) (fun s hs => by cases hs; exact fun _ => ⟨w.heap.size, e1, en, e2, e3, em, e4, rfl, Blk.new w 27 _, h41.alloc _, h41t.alloc _⟩) ((Below.refl _ _).alloc (Nat.le_refl _) _)
        simp only [over_actE8] at hK3 ⊢
        clear hK hk
        unfold actE8 at hK3 ⊢
        simp only [e41] at hK3 ⊢
        refine want_plain rfl ?_
        go_simp
        exact hK3
      · intro o ho p hp _ z w hC hk K' hK
        cases ho
        have hK3 := hK (.pointer (some ⟨R, 3, none⟩)) w (fun s hs => by cases hs; exact rfl) (Below.refl _ _)
        simp only [over_actE8] at hK3 ⊢
        clear hK hk
        unfold actE8 at hK3 ⊢
        refine want_plain rfl ?_
        go_simp
        exact hK3
      · intro o ho z w hC hk K' hK
        cases ho
        have hB := hC.1 rfl
        have eS : z 30 = vk := hk 30 (by decide +kernel) rfl
        obtain ⟨g9, e1, en, e2, e3, em, e4, eA, bA, h42, h42t⟩ := hk 42 (by decide +kernel) rfl rfl
        have hmw := hmk.bel hB
        have hrw := hmw.row
        rw [HKK.out] at hrw
        simp only [over_actE8] at hK ⊢
        refine want_plain rfl (append_in rfl (.tmp 30) (.tmp 42) 25 rfl M 27 i0 (.agg #[.slice none 0 0, .int .i64 0, .int .i64 0, .slice none 0 0]) 4 64 Try.underlying25 hi hz0' hz1 hz2 rfl (by decide) vk j (tcells ps) eS hrw ⟨g9, 0, none⟩ 1 1 [.slice e1 en e2, .int .i64 vt.kind, .int .i64 vt.idx, .slice e3 em e4] eA rfl ?_ (by simp [Value.oneCell']) (by omega) (by unfold maxLen; omega) (by omega) (by have := hB.size; omega) ?_)
        · intro i u hi
          have e : ((⟨g9, 0, none⟩ : Addr).add i) = ⟨g9, i, none⟩ := by simp [Addr.add]; omega
          rw [e, bA.cell i]
          simpa using hi
        · intro g cap8 w' hown hgrow hat hlt
          have hq := (⟨ps ++ [⟨.slice e1 en e2, .slice e3 em e4, vt⟩], hmw.snoc (cap := cap8) (x := ⟨.slice e1 en e2, .slice e3 em e4, vt⟩) HKK.out h42 h42t hgrow hat hown, by rw [List.length_append, HKK.out]; rfl, by rw [List.map_append, HP.out]; rfl⟩ : ∃ qs, MkQ w' M okq 27 (.slice (some ⟨g, 0, none⟩) (j + 1) cap8) qs ∧ qs.length = j + 1 ∧ qs.map (·.t) = (etaL ts).take j ++ [vt])
          refine hK _ w' (fun i hs => by cases hs; exact ⟨by omega, ⟨g, cap8, rfl⟩, hq⟩) ⟨by omega, fun _ => ?_, by omega⟩ (fun s h => ?_)
          · exact ⟨hgrow.os.trans hB.os, hgrow.tape.trans hB.tape, hgrow.output.trans hB.output, Nat.le_trans hB.size hgrow.size, fun i hi hn => (hgrow.block i (Nat.lt_of_lt_of_le hi hB.size) hn).trans (hB.block i hi)⟩
          · revert h
            unfold VE8
            split <;> intro h
            · exact h
            · exact h
            · exact h
            · exact h
            · exact h
            · exact h
            · exact h
            · exact h
            · exact h
            · exact h
            · exact h
            · exact h
            · exact fun e0 => absurd e0 (by omega)
            · exact fun e0 => absurd e0 (by omega)
            · exact absurd h.1 (by omega)
            · exact h
            · trivial
      · intro o ho z w hC hk K' hK
        cases ho
        have eP : z 44 = .pointer (some ⟨R, 3, none⟩) := hk 44 (by decide +kernel) rfl
        obtain ⟨_, ⟨g9, c9, eV⟩, hq⟩ := hk 43 (by decide +kernel) rfl
        have hG := hC.2.1 rfl
        have hbR : Blk w R 27 #[.slice (some ⟨g, o, none⟩) ts.length cap, .int .i64 k, .int .i64 x, vk] := hbR.kept hG (fun e => hnoR e.symm)
        have f0 := hbR.frozen 3
        have p0 := hbR.cell 3
        rw [eV] at hq
        have hK3 := hK undef (w.setCell ⟨R, 3, none⟩ (.slice (some ⟨g9, 0, none⟩) (j + 1) c9)) (fun i hs => by cases hs) ⟨by omega, by omega, fun _ => ⟨_, hbR.set 3 _, (by obtain ⟨ps, h8, h9⟩ := hq; exact ⟨ps, h8.set (by omega) hnR 3 _, h9⟩), w, hG, (Only.refl _ _).set (by simp) 3 _⟩⟩ (fun s h => by
          revert h
          unfold VE8
          split <;> intro h
          · exact h
          · exact h
          · exact h
          · exact h
          · exact h
          · exact h
          · exact h
          · exact h
          · exact h
          · exact h
          · exact h
          · exact h
          · exact fun e0 => absurd e0 (by omega)
          · exact fun e0 => absurd e0 (by omega)
          · exact ⟨by omega, h.2.1, (by obtain ⟨ps, h8, h9⟩ := h.2.2; exact ⟨ps, h8.set (by omega) hnR 3 _, h9⟩)⟩
          · exact h
          · trivial)
        simp only [over_actE8] at hK3 ⊢
        clear hK hk
        unfold actE8 at *
        simp only [eP, eV] at hK3 ⊢
        refine want_plain rfl ?_
        go_simp
        exact hK3
      · intro z w' hC _
        obtain ⟨v', hbR', hq', w1, hG, hO⟩ := hC.2.2 rfl
        rw [over_actE8]
        refine hKs _ _ ?_
        unfold actE8
        have n1 := (hb1.kept hG (fun e => hn1 e.symm)).only hO (by simp; omega)
        have n2 := (hb2.kept hG (fun e => hn2 e.symm)).only hO (by simp; omega)
        have hbl' : Below N w w' := (hbl.grown hG (by omega) (fun i hi => by have := (hmk.lt i hi).1; omega)).trans (hO.below (by have := hG.size; omega) (fun i hi => by simp at hi; omega))
        have hM' : M ≤ w'.heap.size := by have h8 := hG.size; have h9 := hO.size; omega
        obtain ⟨qs, hm', _, hp'⟩ := hq'
        rw [HPX.out] at hp'
        go_wp2
        exact ⟨⟨j + 1, v', qs, by omega, by go_num, hp', n1, n2, hbR', hM', hm', hbl'⟩, by simp [intOf]; omega⟩
    · obtain rfl : j = ts.length := by omega
      have t0 := hbR.cell 3
      have x0 := hbR.cell 0
      have x1 := hbR.cell 1
      have x2 := hbR.cell 2
      have s0 := hb2.cell 0
      have s1 := hb2.cell 1
      have s2 := hb2.cell 2
      have s3 := hb2.cell 3
      have f0 := hb2.frozen 0
      have f1 := hb2.frozen 1
      have f2 := hb2.frozen 2
      have f3 := hb2.frozen 3
      have HP3 : Hid (ps.map (·.t) = etaL ts) := by show _ = _; rw [HP.out, ← etaL_length ts, List.take_length]
      have hh4 := hmk.holds
      obtain ⟨ra, rc, rfl, _⟩ := hh4.shape
      generalize (ps.map (·.t)).length = rn at *
      rw [HP3.out] at hh4
      have c0 := (((hb2.set 0 (.slice a ts.length cap)).set 1 (.int .i64 k)).set 2 (.int .i64 x)).set 3 (.slice ra rn rc)
      have hh5 := holdsT_set4 (g := N + 2) (ok' := fun b => ok b ∨ N ≤ b) hh4 (fun b _ h => by
        rw [HOK.out] at h
        rcases h with (h | h) | h
        · exact ⟨by omega, .inl h.1⟩
        · exact ⟨by omega, .inr (by omega)⟩
        · exact ⟨by omega, .inr (by omega)⟩) (.slice a ts.length cap) (.int .i64 k) (.int .i64 x) (.slice ra rn rc)
      have hh6 := holds_set4 (g := N + 2) (ok' := fun b => ok b ∨ N ≤ b) (hb9.bel (by rw [HN.out]; exact hbl)) (fun b _ h => ⟨by omega, .inl h.1⟩) (.slice a ts.length cap) (.int .i64 k) (.int .i64 x) (.slice ra rn rc)
      have hB5 : Below N w ((((wr.setCell ⟨N + 2, 0, none⟩ (.slice a ts.length cap)).setCell ⟨N + 2, 1, none⟩ (.int .i64 k)).setCell ⟨N + 2, 2, none⟩ (.int .i64 x)).setCell ⟨N + 2, 3, none⟩ (.slice ra rn rc)) := bset (bset (bset (bset hbl (by omega) _) (by omega) _) (by omega) _) (by omega) _
      clear hmk hpl hh4
      go_wp2
      generalize (((wr.setCell ⟨N + 2, 0, none⟩ (.slice a ts.length cap)).setCell ⟨N + 2, 1, none⟩ (.int .i64 k)).setCell ⟨N + 2, 2, none⟩ (.int .i64 x)).setCell ⟨N + 2, 3, none⟩ (.slice ra rn rc) = W5 at *
      have d0 : W5.cell? ⟨N + 2, 0, none⟩ = some (.slice a ts.length cap) := c0.cell 0
      have d1 : W5.cell? ⟨N + 2, 1, none⟩ = some (.int .i64 k) := c0.cell 1
      have d2 : W5.cell? ⟨N + 2, 2, none⟩ = some (.int .i64 x) := c0.cell 2
      have d3 : W5.cell? ⟨N + 2, 3, none⟩ = some (.slice ra rn rc) := c0.cell 3
      exact bodyPost_ret (v := tmv (.slice a ts.length cap) k x (.slice ra rn rc)) (by simp [results, Try.results88, go_sem, d0, d1, d2, d3]) rfl ⟨_, _, rfl, hh6, hh5, hB5⟩

theorem eta_calls (ts : List Ty) : EtaAt ts := by
  have h : ∀ t : Ty, EtaAt t.args := fun t => by
    induction t using Ty.ind with
    | h t ih => exact eta_list t.args ih
  exact h (.mk ts 0)

end Go.Proofs.Ytheokboggjnenaa
