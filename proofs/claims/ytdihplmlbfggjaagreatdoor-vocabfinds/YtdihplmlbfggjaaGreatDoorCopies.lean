/-
  Copies: several texts in one file.
-/
import Derived.Test.YtdihplmlbfggjaaGreatDoorTabs
import Derived.Test.YtdihplmlbfggjaaGreatDoorShelf
import Derived.Test.YtdihplmlbfggjaaGreatDoorRegions
import Derived.Deep.AppendLies
/-
  The contracts of strings.Clone and of vocab.freshType.
-/
namespace Go.Proofs.YtdihplmlbfggjaaGreatDoor
open Go Go.RowKit

/-- An operation's own word, inside the wide fence. -/
theorem wpIn_of_wp {n : Nat} {P : Program} {o : Oper} {a : Act} {w : World} {K : Act → World → Prop} {Q : Exit → Act → World → Prop} (h : Oper.wp P o a w K Q) : Oper.wpIn Fence.wide n P o a w K Q := by
  refine ⟨fun _ _ => trivial, ?_⟩
  unfold Oper.wp at h
  show o.uponIn Fence.wide n P a K Q ((o.semAt none a.eval).run P w)
  rw [Oper.semAt_none]
  generalize (execOp a.eval o).run P w = r at *
  cases r with
  | ok x w' =>
    cases x <;> simp only [Oper.upon, Oper.uponIn] at h ⊢
    case value u => exact h
    case skip => exact h
    case defer d => exact h
    case enter f args => exact ⟨(fun h => by cases h), callsIn_wide.2 h⟩
    case row row args => exact ⟨(fun h => by cases h), fun c cs _ => let ⟨v, w'', h1, h2⟩ := h c cs; ⟨v, w'', h1, stepsIn_wide.2 h2⟩⟩
    all_goals exact h.elim
  | halt x w' => cases x <;> simp only [Oper.upon, Oper.uponIn] at h ⊢ <;> exact h

theorem Clone_calls (s : ByteArray) (hs : s.size ≤ 140737488355328) (w : World) : Calls Tryz.prog 31 #[.string s] w fun e w' => e = .returned (.string s) ∧ Below w.heap.size w w' := by
  go_enter Tryz.func31, Tryz.ntmps31
  go_wp2_with (go_at_call 42; refine (Tryz.stringslite_Clone s w (by omega)).mono ?_; rintro e w' ⟨rfl, hb⟩)
  go_ret
  exact ⟨rfl, hb⟩

set_option maxRecDepth 100000 in
set_option maxHeartbeats 1000000 in
theorem freshType_calls (t : Ty) (ok : Nat → Prop) (sl : Value) (w : World) (hh : Holds w ok t.args sl) (hsz : t.size ≤ 1000000) :
    Calls Tryz.prog 30 #[tv sl t.base] w fun e w' => ∃ v, e = .returned (tv v t.base) ∧ Holds w' (fun b => w.heap.size ≤ b) t.args v ∧ Below w.heap.size w w' := by
  obtain ⟨a, cap, hsl, _⟩ := hh.shape
  generalize hn : t.args.length = tn at hsl
  subst hsl
  obtain ⟨N, hN⟩ : ∃ N, w.heap.size = N := ⟨_, rfl⟩
  rw [hN]
  have hsz2 := t.size_eq
  generalize hw1 : (w.alloc (.cells #[.slice a tn cap, .int .i64 t.base] 42)).alloc (.cells #[.slice none 0 0, .int .i64 0] 42) = w1
  have b1 : Blk w1 N 42 #[.slice a tn cap, .int .i64 t.base] := by rw [← hw1]; exact (Blk.new' w N 42 _ hN).alloc _
  have b2 : Blk w1 (N + 1) 42 #[.slice none 0 0, .int .i64 0] := by rw [← hw1]; exact Blk.new' _ (N + 1) 42 _ (by simp [hN])
  have bl1 : Below N w w1 := by rw [← hw1]; exact ((Below.refl N w).alloc (by omega) _).alloc (by simp; omega) _
  have hh1 : Holds w1 ok t.args (.slice a tn cap) := hh.bel (by rw [hN]; exact bl1)
  have c0 := b1.cell 0
  have c1 := b1.cell 1
  have hcall := kOf_calls t.base t.args ok (.slice a tn cap) w1 hh1 (by omega)
  go_enter Tryz.func30, Tryz.ntmps30
  go_wp2_with fail
  refine hcall.mono ?_
  rintro e w2 ⟨v2, rfl, hv2, hb2⟩
  obtain ⟨ya, yc, hv, _⟩ := hv2.shape
  rw [hn] at hv
  subst hv
  have b3 := b2.below hb2 b2.lt
  have d0 := b3.cell 0
  have d1 := b3.cell 1
  have f0 := b3.frozen 0
  have f1 := b3.frozen 1
  have hs1 : N + 1 < w1.heap.size := b2.lt
  have hB2 : Below N w w2 := bl1.trans (hb2.mono (by omega))
  have hB3 : Below N w ((w2.setCell ⟨N + 1, 0, none⟩ (.slice ya tn yc)).setCell ⟨N + 1, 1, none⟩ (.int .i64 t.base)) := bset (bset hB2 (by omega) _) (by omega) _
  have hH3 : Holds ((w2.setCell ⟨N + 1, 0, none⟩ (.slice ya tn yc)).setCell ⟨N + 1, 1, none⟩ (.int .i64 t.base)) (fun b => N ≤ b) t.args (.slice ya tn yc) := holds_set2 hv2 (fun b _ ho => ⟨by omega, by omega⟩) _ _ _ _
  have c9 := (b3.set 0 (.slice ya tn yc)).set 1 (.int .i64 t.base)
  go_wp2
  generalize (w2.setCell ⟨N + 1, 0, none⟩ (.slice ya tn yc)).setCell ⟨N + 1, 1, none⟩ (.int .i64 t.base) = W5 at *
  have e0 : W5.cell? ⟨N + 1, 0, none⟩ = some (.slice ya tn yc) := c9.cell 0
  have e1 : W5.cell? ⟨N + 1, 1, none⟩ = some (.int .i64 t.base) := c9.cell 1
  exact bodyPost_ret (v := tv (.slice ya tn yc) t.base) (by simp [results, Tryz.results30, go_sem, e0, e1]) rfl ⟨_, rfl, hH3, hB3⟩

end Go.Proofs.YtdihplmlbfggjaaGreatDoor

/-
  A slice of constants that is being made by appending.
-/
namespace Go.Proofs.YtdihplmlbfggjaaGreatDoor
open Go Go.RowKit

/-- The cells of constants. -/
def ccells : List (Value × Cn) → List Value
  | [] => []
  | p :: r => .string p.2.name :: p.1 :: .int .i64 p.2.ty.base :: ccells r
theorem ccells_append (a b : List (Value × Cn)) : ccells (a ++ b) = ccells a ++ ccells b := by
  induction a with
  | nil => rfl
  | cons p a ih => simp [ccells, ih]
theorem ccells_length (a : List (Value × Cn)) : (ccells a).length = a.length * 3 := by
  induction a with
  | nil => rfl
  | cons p a ih => simp [ccells, ih]; omega
theorem ccells_get (a : List (Value × Cn)) (i : Nat) (p : Value × Cn) (h : a[i]? = some p) : (ccells a)[i * 3]? = some (.string p.2.name) ∧ (ccells a)[i * 3 + 1]? = some p.1 ∧ (ccells a)[i * 3 + 2]? = some (.int .i64 p.2.ty.base) := by
  induction a generalizing i with
  | nil => simp at h
  | cons q a ih =>
    cases i with
    | zero => simp at h; subst h; simp [ccells]
    | succ i =>
      have := ih i (by simpa using h)
      rw [show (i + 1) * 3 = i * 3 + 1 + 1 + 1 by omega]
      simpa [ccells] using this

/-- THE SLICE v OF CONSTANTS IS BEING MADE in blocks from M on: so far of these. -/
structure MkC (w : World) (M : Nat) (v : Value) (ps : List (Value × Cn)) : Prop where
  row : w.ownsRow M 60 3 v ps.length (ccells ps)
  kid : ∀ p ∈ ps, Holds w (fun b => M ≤ b ∧ v.ownBlock ≠ some b) p.2.ty.args p.1

theorem MkC.nil (w : World) (M : Nat) : MkC w M (.slice none 0 0) [] := ⟨World.ownsRow_nil w M 60 3, fun p hp => by cases hp⟩
theorem MkC.keep {w w' : World} {M : Nat} {v : Value} {ps : List (Value × Cn)} (h : MkC w M v ps) (hk : ∀ b, M ≤ b → b < w.heap.size → w'.heap[b]? = w.heap[b]?) : MkC w' M v ps := by
  refine ⟨?_, fun p hp => (h.kid p hp).keep fun b hb ho => ⟨hk b ho.1 hb, ho⟩⟩
  obtain ⟨h1, h2⟩ := h.row
  refine ⟨h1, ?_⟩
  rcases h2 with h2 | ⟨g, cap, cur, e1, e2, e3, e4⟩
  · exact .inl h2
  · refine .inr ⟨g, cap, cur, e1, e2, ?_, e4⟩
    have hlt : g < w.heap.size := (Array.getElem?_eq_some_iff.1 e3).1
    rw [hk g e2 hlt]
    exact e3
theorem MkC.bel {w w' : World} {M : Nat} {v : Value} {ps : List (Value × Cn)} (h : MkC w M v ps) (hb : Below w.heap.size w w') : MkC w' M v ps := h.keep fun b _ hl => hb.block b hl
theorem MkC.set {w : World} {M : Nat} {v : Value} {ps : List (Value × Cn)} (h : MkC w M v ps) {R : Nat} (hR : R < M) (i : Nat) (u : Value) : MkC (w.setCell ⟨R, i, none⟩ u) M v ps :=
  h.keep fun b hb _ => Below.heap_setCell w ⟨R, i, none⟩ u b (show b ≠ R by omega)
theorem MkC.lt {w : World} {M : Nat} {v : Value} {ps : List (Value × Cn)} (h : MkC w M v ps) (b : Nat) (hb : v.ownBlock = some b) : M ≤ b ∧ b < w.heap.size := h.row.lt b hb
theorem MkC.snoc {w w3 : World} {M L k : Nat} {v : Value} {ps : List (Value × Cn)} {s : Value} {x : Cn} {g cap : Nat} (h : MkC w M v ps) (hk : ps.length = k) (hs : Holds w (fun b => L ≤ b) x.ty.args s) (hML : M ≤ L)
    (hvL : ∀ b, v.ownBlock = some b → b < L) (hg : w.grownBy w3 v.ownBlock) (hat : v.ownBlock = some g ∨ g = w.heap.size)
    (hown : w3.ownsRow M 60 3 (.slice (some ⟨g, 0, none⟩) (k + 1) cap) (k + 1) (ccells ps ++ [.string x.name, s, .int .i64 x.ty.base])) : MkC w3 M (.slice (some ⟨g, 0, none⟩) (k + 1) cap) (ps ++ [(s, x)]) := by
  have hgo : (Value.slice (some ⟨g, 0, none⟩) (k + 1) cap).ownBlock = some g := rfl
  have hb3 : ∀ b, b < w.heap.size → v.ownBlock ≠ some b → w3.heap[b]? = w.heap[b]? := fun b hb hn => hg.block b hb (fun e => hn e.symm)
  have hne : ∀ b, b < w.heap.size → v.ownBlock ≠ some b → (some g : Option Nat) ≠ some b := fun b hb hn e => by
    cases e
    rcases hat with h1 | h1
    · exact hn h1
    · omega
  refine ⟨by rw [List.length_append, ccells_append, hk]; exact hown, fun p hp => ?_⟩
  rcases List.mem_append.1 hp with hp | hp
  · refine (h.kid p hp).keep fun b hb ho => ⟨hb3 b hb ho.2, ho.1, ?_⟩
    rw [hgo]; exact hne b hb ho.2
  · obtain rfl : p = (s, x) := by simpa using hp
    refine hs.keep fun b hb ho => ?_
    have hn : v.ownBlock ≠ some b := fun e => by have := hvL b e; omega
    exact ⟨hb3 b hb hn, Nat.le_trans hML ho, by rw [hgo]; exact hne b hb hn⟩
theorem MkC.holds {w : World} {M : Nat} {v : Value} {ps : List (Value × Cn)} (h : MkC w M v ps) : HoldsC w (fun b => M ≤ b) (ps.map (·.2)) v := by
  have h' := h.row
  obtain ⟨h1, h2⟩ := h.row
  rcases h2 with ⟨rfl, h2⟩ | ⟨g, cap, cur, rfl, e2, e3, e4, e5, e6⟩
  · have : ps = [] := List.eq_nil_of_length_eq_zero h2
    subst this
    exact HoldsC.nil _ _
  · have hc := World.ownsRow.cellAt h'
    refine ⟨some ⟨g, 0, none⟩, cap, by rw [List.length_map], by rw [List.length_map]; exact e4, (fun h => by cases h), fun i x hi => ?_⟩
    rw [List.getElem?_map] at hi
    obtain ⟨p, hp, rfl⟩ := Option.map_eq_some_iff.1 hi
    obtain ⟨c0, c1, c2⟩ := ccells_get ps i p hp
    have hil := (List.getElem?_eq_some_iff.1 hp).1
    refine ⟨g, 0, p.1, rfl, e2, ?_, ?_, ?_, (h.kid p (List.mem_of_getElem? hp)).mono fun b _ ho => ho.1⟩
    · rw [Nat.zero_add, hc _ (by omega), c0]
    · rw [Nat.zero_add, hc _ (by omega), c1]
    · rw [Nat.zero_add, hc _ (by omega), c2]

end Go.Proofs.YtdihplmlbfggjaaGreatDoor

/-
  The contract of vocab.fresh: a table told in memory of its own.
-/
namespace Go.Proofs.YtdihplmlbfggjaaGreatDoor
open Go Go.RowKit

def strs (l : List ByteArray) : List Value := l.map Value.string
theorem strs_append (a b : List ByteArray) : strs (a ++ b) = strs a ++ strs b := List.map_append
theorem strs_length (a : List ByteArray) : (strs a).length = a.length := List.length_map _
theorem info9 : (Tryz.prog.info? 9).map (fun i => (i.zero, i.size, i.bytes)) = some (some (.string ⟨#[]⟩), 1, 16) := by kernel_rfl
theorem info47 : (Tryz.prog.info? 60).map (fun i => (i.zero, i.size, i.bytes)) = some (some (.agg #[.string ⟨#[]⟩, .slice none 0 0, .int .i64 0]), 3, 48) := by kernel_rfl

/-- An append, inside the wide fence. -/
theorem append_in {n : Nat} {P : Program} {w : World} {o : Oper} {a : Act} {K : Act → World → Prop} {Q : Exit → Act → World → Prop} (hgd : o.guard = none) (s x : Operand) (t : TypeId)
    (ho : o.op = .call { callee := .builtin .append, args := #[s, x], argTypes := #[t, t] })
    (base : Nat) (e : TypeId) (i : TypeInfo) (z : Value) (size bytes : Nat) (ht : P.underlying t = some (.slice e)) (hi : P.info? e = some i) (hz : i.zero = some z)
    (hsize : i.size = size) (hby : i.bytes = bytes) (hzs : z.cells.size = size) (hsz : 0 < size)
    (v : Value) (k : Nat) (xs : List Value) (hs : a.eval s = v) (hown : w.ownsRow base e size v k xs)
    (ad : Addr) (m c : Nat) (news : List Value) (hx : a.eval x = .slice (some ad) m c) (hl : news.length = m * size) (hnews : ∀ j u, news[j]? = some u → w.cell? (ad.add j) = some u) (h1 : ∀ u ∈ news, u.oneCell' = true)
    (hm : 0 < m) (h63 : k + m ≤ maxLen) (hbytes : (k + m) * bytes ≤ 140737488355328) (hbase : base ≤ w.heap.size)
    (h : ∀ g cap w', w'.ownsRow base e size (.slice (some ⟨g, 0, none⟩) (k + m) cap) (k + m) (xs ++ news) → w.grownBy w' v.ownBlock → (v.ownBlock = some g ∨ g = w.heap.size) → g < w'.heap.size → K (a.put o.dst (.slice (some ⟨g, 0, none⟩) (k + m) cap)) w') :
    Oper.wpIn Fence.wide n P o a w K Q := by
  have := step_append_lies w (E := True) (ops := #[]) (Q := Q) hgd s x t ho base e i z size bytes ht hi hz hsize hby hzs hsz v k xs hs hown ad m c news hx hl hnews h1 hm h63 hbytes hbase w.heap.size rfl h
  rw [if_pos (by simp [Region.wanted, hgd])] at this
  exact wpIn_of_wp this

def actF (x0 x5 x9 x13 x14 u22 : Value) (N R nb k : Nat) (u : Nat → Value) : Act :=
  { tmps := #[x0, .pointer (some ⟨N, 0, none⟩), .pointer (some ⟨N + 1, 0, none⟩), .pointer (some ⟨R, 0, none⟩), undef, x5, undef, undef, .pointer (some ⟨N, 0, none⟩), x9, .int .i64 nb, .int .i64 k, .bool true, x13, x14, u 15, u 16, u 17, u 18, u 19, u 20, u 21, u22, undef, undef, undef, undef, undef, undef, undef, undef, undef, undef, undef, undef, undef, undef, undef, undef, undef, undef, undef, undef, undef], defers := [] }
theorem over_actF (x0 x5 x9 x13 x14 u22 : Value) (N R nb k : Nat) (u0 u : Nat → Value) : over (fun s => Nat.ble 15 s && Nat.ble s 21) u (actF x0 x5 x9 x13 x14 u22 N R nb k u0) = actF x0 x5 x9 x13 x14 u22 N R nb k u := rfl

/-- What the slots hold while a name is put behind the others. -/
def VF (R M k : Nat) (vk : Value) (xs : List Value) (nm : ByteArray) (p s : Nat) (w : World) (v : Value) : Prop :=
  (s = 15 ∨ s = 21 → v = .pointer (some ⟨R, 0, none⟩)) ∧ (s = 16 → v = vk) ∧ (s = 17 ∨ s = 18 → v = .string nm) ∧ (s = 19 → p = 0 → ∃ g, v = .slice (some ⟨g, 0, none⟩) 1 1 ∧ w.cell? ⟨g, 0, none⟩ = some (.string nm)) ∧
    (s = 20 → 1 ≤ p ∧ ∃ g cap, v = .slice (some ⟨g, 0, none⟩) (k + 1) cap ∧ w.ownsRow M 9 1 v (k + 1) (xs ++ [.string nm]))
theorem VF.mono {R M k : Nat} {vk : Value} {xs : List Value} {nm : ByteArray} {p s : Nat} {w w' : World} {v : Value} (h : VF R M k vk xs nm p s w v) (hb : Below w.heap.size w w') : VF R M k vk xs nm p s w' v :=
  ⟨h.1, h.2.1, h.2.2.1, fun e e0 => by obtain ⟨g, h1, h2⟩ := h.2.2.2.1 e e0; exact ⟨g, h1, (cat hb (lt_of_cell h2)).trans h2⟩, fun e => by obtain ⟨h0, g, cap, h1, h2⟩ := h.2.2.2.2 e; exact ⟨h0, g, cap, h1, row_below h2 hb⟩⟩
/-- The world at each stage. -/
def CF (W : World) (R M k : Nat) (vk x2 : Value) (xs : List Value) (nm : ByteArray) (p : Nat) (w : World) : Prop :=
  (p = 0 → Below W.heap.size W w) ∧ (p = 1 → W.grownBy w vk.ownBlock) ∧ (p = 2 → ∃ v', Blk w R 28 #[v', x2] ∧ w.ownsRow M 9 1 v' (k + 1) (xs ++ [.string nm]) ∧ (∃ w1, W.grownBy w1 vk.ownBlock ∧ Only [R] w1 w))
theorem grownBy_bel {a w w' : World} {row : Option Nat} (h : a.grownBy w row) (hb : Below w.heap.size w w') : a.grownBy w' row :=
  ⟨hb.os.trans h.os, hb.tape.trans h.tape, hb.output.trans h.output, Nat.le_trans h.size hb.size, fun k hk hn => (hb.block k (Nat.lt_of_lt_of_le hk h.size)).trans (h.block k hk hn)⟩
theorem grownBy_of_bel {a w : World} {row : Option Nat} (hb : Below a.heap.size a w) : a.grownBy w row := ⟨hb.os, hb.tape, hb.output, hb.size, fun k hk _ => hb.block k hk⟩
theorem CF.mono {W : World} {R M k : Nat} {vk x2 : Value} {xs : List Value} {nm : ByteArray} {p : Nat} {w w' : World} (h : CF W R M k vk x2 xs nm p w) (hb : Below w.heap.size w w') : CF W R M k vk x2 xs nm p w' :=
  ⟨fun e => (h.1 e).trans (hb.mono (h.1 e).size), fun e => grownBy_bel (h.2.1 e) hb, fun e => by
    obtain ⟨v', h1, h2, w1, h3, h4⟩ := h.2.2 e
    exact ⟨v', h1.below hb h1.lt, row_below h2 hb, w1, h3, h4.trans (Only.of_below' hb)⟩⟩

def actG (N R X k nc j : Nat) (y u : Nat → Value) : Act :=
  { tmps := #[y 0, .pointer (some ⟨N, 0, none⟩), .pointer (some ⟨N + 1, 0, none⟩), .pointer (some ⟨R, 0, none⟩), undef, y 5, undef, .pointer (some ⟨X, 0, none⟩), .pointer (some ⟨N, 0, none⟩), y 9, .int .i64 k, .int .i64 k, .bool false, y 13, y 14, y 15, y 16, y 17, y 18, y 19, y 20, y 21, y 22, .pointer (some ⟨N, 1, none⟩), y 24, .int .i64 nc, .int .i64 j, .bool true, y 28, y 29, u 30, u 31, u 32, u 33, u 34, u 35, u 36, u 37, u 38, u 39, u 40, u 41, y 42, undef], defers := [] }
theorem over_actG (N R X k nc j : Nat) (y u0 u : Nat → Value) : over (fun s => Nat.ble 30 s && Nat.ble s 41) u (actG N R X k nc j y u0) = actG N R X k nc j y u := rfl

/-- What the slots hold while a constant is put behind the others. -/
def VG (R M X L k : Nat) (vk S : Value) (x : Cn) (cs : List Cn) (p s : Nat) (w : World) (v : Value) : Prop :=
  (s = 30 ∨ s = 41 → v = .pointer (some ⟨R, 1, none⟩)) ∧ (s = 31 → v = vk) ∧ (s = 32 → v = .pointer (some ⟨X, 0, none⟩)) ∧ (s = 33 ∨ s = 34 → v = .string x.name) ∧ (s = 35 → v = .pointer (some ⟨X, 1, none⟩)) ∧ (s = 36 → v = tv S x.ty.base) ∧
  (s = 37 → p = 0 → ∃ a n c, v = tv (.slice a n c) x.ty.base ∧ Holds w (fun b => L ≤ b) x.ty.args (.slice a n c)) ∧ (s = 38 → p = 0 → ∃ a n c, v = .agg #[.string x.name, .slice a n c, .int .i64 x.ty.base] ∧ Holds w (fun b => L ≤ b) x.ty.args (.slice a n c)) ∧
  (s = 39 → p = 0 → ∃ g a n c, v = .slice (some ⟨g, 0, none⟩) 1 1 ∧ Blk w g 60 #[.string x.name, .slice a n c, .int .i64 x.ty.base] ∧ Holds w (fun b => L ≤ b) x.ty.args (.slice a n c)) ∧
  (s = 40 → 1 ≤ p ∧ (∃ g cap, v = .slice (some ⟨g, 0, none⟩) (k + 1) cap) ∧ ∃ ps, MkC w M v ps ∧ ps.length = k + 1 ∧ ps.map (·.2) = cs ++ [x])
theorem VG.mono {R M X L k : Nat} {vk S : Value} {x : Cn} {cs : List Cn} {p s : Nat} {w w' : World} {v : Value} (h : VG R M X L k vk S x cs p s w v) (hb : Below w.heap.size w w') : VG R M X L k vk S x cs p s w' v := by
  obtain ⟨h1, h2, h3, h4, h5, h6, h7, h8, h9, h10⟩ := h
  refine ⟨h1, h2, h3, h4, h5, h6, fun e e0 => ?_, fun e e0 => ?_, fun e e0 => ?_, fun e => ?_⟩
  · obtain ⟨a, n, c, e1, e2⟩ := h7 e e0; exact ⟨a, n, c, e1, e2.bel hb⟩
  · obtain ⟨a, n, c, e1, e2⟩ := h8 e e0; exact ⟨a, n, c, e1, e2.bel hb⟩
  · obtain ⟨g, a, n, c, e1, e2, e3⟩ := h9 e e0; exact ⟨g, a, n, c, e1, e2.below hb e2.lt, e3.bel hb⟩
  · obtain ⟨e0, e1, ps, e2, e3⟩ := h10 e; exact ⟨e0, e1, ps, e2.bel hb, e3⟩
def CG (W : World) (R M k : Nat) (x1 vk : Value) (x : Cn) (cs : List Cn) (p : Nat) (w : World) : Prop :=
  (p = 0 → Below W.heap.size W w) ∧ (p = 1 → W.grownBy w vk.ownBlock) ∧ (p = 2 → ∃ v', Blk w R 28 #[x1, v'] ∧ (∃ ps, MkC w M v' ps ∧ ps.length = k + 1 ∧ ps.map (·.2) = cs ++ [x]) ∧ (∃ w1, W.grownBy w1 vk.ownBlock ∧ Only [R] w1 w))
theorem CG.mono {W : World} {R M k : Nat} {x1 vk : Value} {x : Cn} {cs : List Cn} {p : Nat} {w w' : World} (h : CG W R M k x1 vk x cs p w) (hb : Below w.heap.size w w') : CG W R M k x1 vk x cs p w' :=
  ⟨fun e => (h.1 e).trans (hb.mono (h.1 e).size), fun e => grownBy_bel (h.2.1 e) hb, fun e => by
    obtain ⟨v', h1, ⟨ps, h2, h5⟩, w1, h3, h4⟩ := h.2.2 e
    exact ⟨v', h1.below hb h1.lt, ⟨ps, h2.bel hb, h5⟩, w1, h3, h4.trans (Only.of_below' hb)⟩⟩

theorem HoldsS.shape {w : World} {ok : Nat → Prop} {ss : List ByteArray} {v : Value} (h : HoldsS w ok ss v) : ∃ a cap, v = .slice a ss.length cap ∧ True := by
  obtain ⟨a, cap, e, _⟩ := h; exact ⟨a, cap, e, trivial⟩
theorem HoldsC.shape {w : World} {ok : Nat → Prop} {cs : List Cn} {v : Value} (h : HoldsC w ok cs v) : ∃ a cap, v = .slice a cs.length cap ∧ True := by
  obtain ⟨a, cap, e, _⟩ := h; exact ⟨a, cap, e, trivial⟩
/-- Two rows of different types do not share a block. -/
theorem rows_ne {w : World} {b b' s s' n n' : Nat} {e e' : TypeId} {v v' : Value} {xs xs' : List Value} (h : w.ownsRow b e s v n xs) (h2 : w.ownsRow b' e' s' v' n' xs') (he : e ≠ e') : v.ownBlock = none ∨ v.ownBlock ≠ v'.ownBlock := by
  obtain ⟨_, h⟩ := h
  obtain ⟨_, h2⟩ := h2
  rcases h with ⟨rfl, _⟩ | ⟨g, cap, cur, rfl, _, e3, _⟩
  · exact .inl rfl
  · refine .inr ?_
    rcases h2 with ⟨rfl, _⟩ | ⟨g', cap', cur', rfl, _, f3, _⟩
    · intro h; cases h
    · intro h
      have hg : g = g' := Option.some.inj h
      subst hg
      rw [e3] at f3
      injection f3 with f3
      injection f3 with _ f3
      exact he f3
theorem row_only {S : List Nat} {w w' : World} {base size n : Nat} {e : TypeId} {v : Value} {xs : List Value} (h : w.ownsRow base e size v n xs) (hk : Only S w w') (hs : ∀ b, v.ownBlock = some b → b ∉ S) : w'.ownsRow base e size v n xs := by
  obtain ⟨h1, h2⟩ := h
  refine ⟨h1, ?_⟩
  rcases h2 with h2 | ⟨g, cap, cur, rfl, e2, e3, e4⟩
  · exact .inl h2
  · refine .inr ⟨g, cap, cur, rfl, e2, ?_, e4⟩
    have hlt : g < w.heap.size := (Array.getElem?_eq_some_iff.1 e3).1
    exact (hk.block g hlt (hs g rfl)).trans e3
theorem holdsS_row {w : World} {M : Nat} {v : Value} {ss : List ByteArray} (h : w.ownsRow M 9 1 v ss.length (strs ss)) : HoldsS w (fun b => M ≤ b) ss v := by
  have h' := h
  obtain ⟨h1, h2⟩ := h
  rcases h2 with ⟨rfl, h2⟩ | ⟨g, cap, cur, rfl, e2, e3, e4, e5, e6⟩
  · have : ss = [] := List.eq_nil_of_length_eq_zero h2
    subst this
    exact HoldsS.nil _ _
  · have hc := World.ownsRow.cellAt h'
    refine ⟨some ⟨g, 0, none⟩, cap, rfl, e4, (fun h => by cases h), fun i x hi => ?_⟩
    have hil := (List.getElem?_eq_some_iff.1 hi).1
    refine ⟨g, 0, rfl, e2, ?_⟩
    rw [Nat.zero_add, hc _ (by omega)]
    simp [strs, hi]

set_option maxRecDepth 100000 in
set_option maxHeartbeats 3200000 in
theorem vfresh_calls (bs : List ByteArray) (cs : List Cn) (ok : Nat → Prop) (va vb : Value) (w : World) (hS : HoldsS w ok bs va) (hC : HoldsC w ok cs vb) (sm : ∀ s ∈ bs ++ cs.map Cn.name, s.size ≤ 30) (fc : FitC cs) (hlen : bs.length + cs.length ≤ 1000000) :
    Calls Tryz.prog 22 #[tab va vb] w fun e w' => ∃ v1 v2, e = .returned (tab v1 v2) ∧ HoldsS w' (fun b => w.heap.size ≤ b) bs v1 ∧ HoldsC w' (fun b => w.heap.size ≤ b) cs v2 ∧ Below w.heap.size w w' := by
  obtain ⟨N, hN⟩ : ∃ N, w.heap.size = N := ⟨_, rfl⟩
  have hS' : HoldsS w (fun b => b < N) bs va := hS.mono fun b hb _ => by omega
  have hC' : HoldsC w (fun b => b < N) cs vb := hC.mono fun b hb _ => by omega
  obtain ⟨a, cap, rfl, hcap, hnil, hat⟩ := hS'
  obtain ⟨c, cap', rfl, hcap', hnil', hct⟩ := hC'
  rw [hN]
  have HA : Hid _ := hat
  have HC : Hid _ := hct
  obtain ⟨nb, hnb⟩ : ∃ nb, bs.length = nb := ⟨_, rfl⟩
  obtain ⟨nc, hnc⟩ : ∃ nc, cs.length = nc := ⟨_, rfl⟩
  have HNB : Hid (bs.length = nb) := hnb
  have HNC : Hid (cs.length = nc) := hnc
  rw [hnb] at hcap hlen ⊢
  rw [hnc] at hcap' hlen ⊢
  clear hat hct hS hC hnb hnc hnil hnil'
  obtain ⟨i9, hi9, hz90, hz91, hz92⟩ := info_parts info9
  obtain ⟨i47, hi47, hz470, hz471, hz472⟩ := info_parts info47
  go_enter Tryz.func22, Tryz.ntmps22
  go_wp2_with fail
  generalize hw0 : ((w.alloc (.cells #[.slice a nb cap, .slice c nc cap'] 28)).alloc (.cells #[.slice none 0 0, .slice none 0 0] 28)).alloc (.cells #[.slice none 0 0, .slice none 0 0] 28) = w0
  have b0 : Blk w0 N 28 #[.slice a nb cap, .slice c nc cap'] := by rw [← hw0]; exact ((Blk.new' w N 28 _ hN).alloc _).alloc _
  have b1 : Blk w0 (N + 1) 28 #[.slice none 0 0, .slice none 0 0] := by rw [← hw0]; exact (Blk.new' _ (N + 1) 28 _ (by simp [hN])).alloc _
  have b2 : Blk w0 (N + 1 + 1) 28 #[.slice none 0 0, .slice none 0 0] := by rw [← hw0]; exact Blk.new' _ (N + 1 + 1) 28 _ (by simp [hN])
  have bl0 : Below N w w0 := by rw [← hw0]; exact (((Below.refl N w).alloc (by omega) _).alloc (by simp; omega) _).alloc (by simp; omega) _
  clear hw0
  obtain ⟨R, hR⟩ : ∃ R, N + 1 + 1 = R := ⟨_, rfl⟩
  rw [hR] at b2 ⊢
  go_loopw [11] (fun i wr => ∃ (k : Nat) (vk : Value), k ≤ nb ∧ i = .int .i64 k ∧ Blk wr N 28 #[.slice a nb cap, .slice c nc cap'] ∧ Blk wr (N + 1) 28 #[.slice none 0 0, .slice none 0 0] ∧ Blk wr R 28 #[vk, .slice none 0 0] ∧ wr.ownsRow (R + 1) 9 1 vk k (strs (bs.take k)) ∧ Below N w wr) (fun i _ => nb - (intOf i).toNat)
  case atStart => exact ⟨0, _, Nat.zero_le _, rfl, b0, b1, b2, World.ownsRow_nil _ _ _ _, bl0⟩
  case round =>
    clear b0 b1 b2 bl0
    obtain ⟨k, vk, hk, rfl, hb0, hb1, hb2, hrow, hbl⟩ := hrel
    by_cases hlt : k < nb
    · obtain ⟨s, hs⟩ : ∃ s, bs[k]? = some s := ⟨_, List.getElem?_eq_getElem (by rw [HNB.out]; exact hlt)⟩
      obtain ⟨g, o, rfl, hg, q0⟩ := HA.out k s hs
      have q1 := (cat hbl hg).trans q0
      have y1 : (0 : Int) ≤ (k : Int) := by omega
      have y2 : (k : Int) < (nb : Int) := by omega
      have z1 : decide ((k : Int) < (nb : Int)) = true := by simp; omega
      have hnm : s.size ≤ 140737488355328 := Nat.le_trans (sm s (List.mem_append_left _ (List.mem_of_getElem? hs))) (by omega)
      have HT : Hid (strs (bs.take (k + 1)) = strs (bs.take k) ++ [.string s]) := by show _ = _; rw [List.take_add_one, hs, strs_append]; rfl
      have hMw : R + 1 ≤ wr.heap.size := hb2.lt
      have hnR : vk.ownBlock ≠ some R := fun e => by have := (hrow.lt R e).1; omega
      have hn0 : vk.ownBlock ≠ some N := fun e => by have := (hrow.lt N e).1; omega
      have hn1 : vk.ownBlock ≠ some (N + 1) := fun e => by have := (hrow.lt (N + 1) e).1; omega
      generalize strs (bs.take k) = xs at *
      clear q0 hs
      go_wp2_with fail
      rename_i K Q' hKs
      refine (wpIn_wide (n := 9)).1 ?_
      show Code.wpIn Fence.wide 9 Tryz.prog (Code.region 5 _ true) _ (actF (tab (.slice (some ⟨g, o, none⟩) nb cap) (.slice c nc cap')) (.string s) (.slice (some ⟨g, o, none⟩) nb cap) (.pointer (some ⟨g, o + k, none⟩)) (.string s) u22 N R nb k (fun j => if j = 15 then u15 else if j = 16 then u16 else if j = 17 then u17 else if j = 18 then u18 else if j = 19 then u19 else if j = 20 then u20 else u21)) wr
      refine region_spine [(0, 0), (1, 0), (2, 0), (3, 0), (4, 0), (6, 1)] [5, 7] (fun s => Nat.ble 15 s && Nat.ble s 21) (VF R (R + 1) k vk xs s) (CF wr R (R + 1) k vk (.slice none 0 0) xs s) (by kernel_rfl) (by kernel_rfl) (by kernel_rfl) (by kernel_rfl) (fun _ _ _ _ _ h hb => h.mono hb) (fun _ _ _ h hb => h.mono hb) ⟨fun _ => (Below.refl _ _).drew, (fun e => by cases e), (fun e => by cases e)⟩ ⟨?_, ?_, ?_, ?_, ?_, ?_, trivial⟩ ⟨?_, ?_, trivial⟩ ?_
      · intro o ho p hp _ z w hC hk K' hK
        cases ho
        have hK3 := hK (.pointer (some ⟨R, 0, none⟩)) w (fun s hs => by cases hs; exact ⟨fun _ => rfl, by omega, by omega, by omega, by omega⟩) (Below.refl _ _)
        simp only [over_actF] at hK3 ⊢
        clear hK hk
        unfold actF at *
        refine want_plain rfl ?_
        go_simp
        exact hK3
      · intro o ho p hp _ z w hC hk K' hK
        cases ho
        have hK3 := hK vk w (fun s hs => by cases hs; exact ⟨by omega, fun _ => rfl, by omega, by omega, by omega⟩) (Below.refl _ _)
        obtain rfl : p = 0 := by omega
        have e15 : z 15 = .pointer (some ⟨R, 0, none⟩) := (hk 15 (by decide +kernel) rfl).1 (.inl rfl)
        have g0 := (cat (hC.1 rfl) hb2.lt).trans (hb2.cell 0)
        simp only [over_actF] at hK3 ⊢
        clear hK hk
        unfold actF at *
        simp only [e15] at hK3 ⊢
        refine want_plain rfl ?_
        go_simp
        exact hK3
      · intro o ho p hp _ z w hC hk K' hK
        cases ho
        have hK3 := hK (.string s) w (fun s hs => by cases hs; exact ⟨by omega, by omega, fun _ => rfl, by omega, by omega⟩) (Below.refl _ _)
        simp only [over_actF] at hK3 ⊢
        clear hK hk
        unfold actF at *
        refine want_plain rfl ?_
        go_simp
        exact hK3
      · intro o ho p hp _ z w hC hk K' hK
        cases ho
        have e17 : z 17 = .string s := (hk 17 (by decide +kernel) rfl).2.2.1 (.inl rfl)
        have hcall := Clone_calls s hnm w
        have hK3 := fun (w2 : World) (hb2 : Below w.heap.size w w2) => hK (.string s) w2 (fun s hs => by cases hs; exact ⟨by omega, by omega, fun _ => rfl, by omega, by omega⟩) hb2
        simp only [over_actF] at hK3 ⊢
        clear hK hk
        unfold actF at *
        simp only [e17] at hK3 ⊢
        refine want_plain rfl ?_
        go_simp
        refine ⟨trivial, (callsIn_wide.2 hcall).mono ?_⟩
        rintro e w2 ⟨rfl, hb2⟩
        exact hK3 w2 hb2
      · intro o ho p hp _ z w hC hk K' hK
        cases ho
        have e18 : z 18 = .string s := (hk 18 (by decide +kernel) rfl).2.2.1 (.inr rfl)
        have hK3 := hK (.slice (some ⟨w.heap.size, 0, none⟩) 1 1) (w.alloc (.cells #[.string s] 9)) (fun j hs => by cases hs; exact ⟨by omega, by omega, by omega, fun _ _ => ⟨w.heap.size, rfl, (Blk.new w 9 #[.string s]).cell 0⟩, by omega⟩) ((Below.refl _ _).alloc (Nat.le_refl _) _)
        simp only [over_actF] at hK3 ⊢
        clear hK hk
        unfold actF at *
        simp only [e18] at hK3 ⊢
        refine want_plain rfl ?_
        go_simp
        exact hK3
      · intro o ho p hp _ z w hC hk K' hK
        cases ho
        have hK3 := hK (.pointer (some ⟨R, 0, none⟩)) w (fun s hs => by cases hs; exact ⟨fun _ => rfl, by omega, by omega, by omega, by omega⟩) (Below.refl _ _)
        simp only [over_actF] at hK3 ⊢
        clear hK hk
        unfold actF at *
        refine want_plain rfl ?_
        go_simp
        exact hK3
      · intro o ho z w hC hk K' hK
        cases ho
        have e16 : z 16 = vk := (hk 16 (by decide +kernel) rfl).2.1 rfl
        obtain ⟨g9, e19, c19⟩ := (hk 19 (by decide +kernel) rfl).2.2.2.1 rfl rfl
        have hB := hC.1 rfl
        have hrw := row_below hrow hB
        simp only [over_actF] at hK ⊢
        refine want_plain rfl (append_in rfl (.tmp 16) (.tmp 19) 22 rfl (R + 1) 9 i9 (.string ⟨#[]⟩) 1 16 Tryz.underlying22 hi9 hz90 hz91 hz92 rfl (by decide) vk k xs e16 hrw ⟨g9, 0, none⟩ 1 1 [.string s] e19 rfl ?_ (by simp [Value.oneCell']) (by omega) (by unfold maxLen; omega) (by omega) (by have := hB.size; omega) ?_)
        · intro j u hj
          cases j with
          | zero => simp at hj; subst hj; exact c19
          | succ j => simp at hj
        · intro g cap w' hown hgrow hat hlt
          refine hK _ w' (fun j hs => by cases hs; exact ⟨by omega, by omega, by omega, by omega, fun _ => ⟨by omega, g, cap, rfl, hown⟩⟩) ⟨by omega, fun _ => ?_, by omega⟩ (fun j x h => ⟨h.1, h.2.1, h.2.2.1, by omega, fun e => by have := (h.2.2.2.2 e).1; omega⟩)
          exact ⟨hgrow.os.trans hB.os, hgrow.tape.trans hB.tape, hgrow.output.trans hB.output, Nat.le_trans hB.size hgrow.size, fun i hi hn => (hgrow.block i (Nat.lt_of_lt_of_le hi hB.size) hn).trans (hB.block i hi)⟩
      · intro o ho z w hC hk K' hK
        cases ho
        have e21 : z 21 = .pointer (some ⟨R, 0, none⟩) := (hk 21 (by decide +kernel) rfl).1 (.inr rfl)
        obtain ⟨_, g9, c9, e20, hown⟩ := (hk 20 (by decide +kernel) rfl).2.2.2.2 rfl
        have hG := hC.2.1 rfl
        have hbR : Blk w R 28 #[vk, .slice none 0 0] := hb2.kept hG (fun e => hnR e.symm)
        have f0 := hbR.frozen 0
        have p0 := hbR.cell 0
        rw [e20] at hown
        have hK3 := hK undef (w.setCell ⟨R, 0, none⟩ (.slice (some ⟨g9, 0, none⟩) (k + 1) c9)) (fun j hs => by cases hs) ⟨by omega, by omega, fun _ => ⟨_, hbR.set 0 _, hown.kept (grownBy_setCell_at w R 0 _) (.inr (fun e => by have := (hown.lt R e).1; omega)), w, hG, (Only.refl _ _).set (by simp) 0 _⟩⟩ (fun j x h => ⟨h.1, h.2.1, h.2.2.1, by omega, fun e => by
          obtain ⟨_, g, cap, h1, h2⟩ := h.2.2.2.2 e
          exact ⟨by omega, g, cap, h1, h2.kept (grownBy_setCell_at w R 0 _) (.inr (fun e => by have := (h2.lt R e).1; omega))⟩⟩)
        simp only [over_actF] at hK3 ⊢
        clear hK hk
        unfold actF at *
        simp only [e21, e20] at hK3 ⊢
        refine want_plain rfl ?_
        go_simp
        exact hK3
      · intro z w' hC _
        obtain ⟨v', hbR, hown, w1, hG, hO⟩ := hC.2.2 rfl
        rw [over_actF]
        refine hKs _ _ ?_
        unfold actF
        have hb0' := (hb0.kept hG (fun e => hn0 e.symm)).only hO (by simp; omega)
        have hb1' := (hb1.kept hG (fun e => hn1 e.symm)).only hO (by simp; omega)
        have hbl' : Below N w w' := (hbl.grown hG (by omega) (fun j hj => by have := (hrow.lt j hj).1; omega)).trans (hO.below (by have := hG.size; omega) (fun j hj => by simp at hj; omega))
        rw [← HT.out] at hown
        go_wp2
        exact ⟨⟨k + 1, v', by omega, by go_num, hb0', hb1', hbR, hown, hbl'⟩, by simp [intOf]; omega⟩
    · obtain rfl : k = nb := by omega
      rw [List.take_of_length_le (by rw [HNB.out]; exact Nat.le_refl _)] at hrow
      have z1 : decide ((k : Int) < (k : Int)) = false := by simp
      have q1 := hb0.cell 1
      obtain ⟨xs1, hxs1⟩ : ∃ xs, strs bs = xs := ⟨_, rfl⟩
      have HX : Hid (strs bs = xs1) := hxs1
      rw [hxs1] at hrow
      clear hxs1
      go_wp2
      go_loopw [26] (fun i wr2 => ∃ (j : Nat) (vk2 : Value) (ps : List (Value × Cn)), j ≤ nc ∧ i = .int .i64 j ∧ ps.length = j ∧ Hid (ps.map (·.2) = cs.take j) ∧ Blk wr2 N 28 #[.slice a k cap, .slice c nc cap'] ∧ Blk wr2 (N + 1) 28 #[.slice none 0 0, .slice none 0 0] ∧ Blk wr2 R 28 #[vk, vk2] ∧ wr2.ownsRow (R + 1) 9 1 vk k xs1 ∧ MkC wr2 (R + 1) vk2 ps ∧ Below N w wr2) (fun i _ => nc - (intOf i).toNat)
      case atStart => exact ⟨0, _, [], Nat.zero_le _, rfl, rfl, rfl, hb0, hb1, hb2, hrow, MkC.nil _ _, hbl⟩
      case round =>
        clear hb0 hb1 hb2 hrow hbl q1
        obtain ⟨j, vk2, ps, hj, rfl, hpl, HP, hb0, hb1, hb2, hrow, hmk, hbl⟩ := hrel
        by_cases hlt2 : j < nc
        · obtain ⟨x, hx⟩ : ∃ x, cs[j]? = some x := ⟨_, List.getElem?_eq_getElem (by rw [HNC.out]; exact hlt2)⟩
          obtain ⟨g, o, s, rfl, hg, q0, q1, q2, hs⟩ := HC.out j x hx
          have p0 := (cat hbl hg).trans q0
          have p1 := (cat hbl hg).trans q1
          have p2 := (cat hbl hg).trans q2
          obtain ⟨sa, sc, hsl, _⟩ := hs.shape
          generalize x.ty.args.length = sn at hsl
          subst hsl
          have y1 : (0 : Int) ≤ (j : Int) := by omega
          have y2 : (j : Int) < (nc : Int) := by omega
          have z2 : decide ((j : Int) < (nc : Int)) = true := by simp; omega
          obtain ⟨X, hX⟩ : ∃ X, wr.heap.size = X := ⟨_, rfl⟩
          obtain ⟨W, hW⟩ : ∃ W, wr.alloc (.cells #[.string x.name, .slice sa sn sc, .int .i64 x.ty.base] 60) = W := ⟨_, rfl⟩
          have hfx := fc x (List.mem_of_getElem? hx)
          have hnx : x.name.size ≤ 140737488355328 := Nat.le_trans (sm x.name (List.mem_append_right _ (List.mem_map.2 ⟨x, List.mem_of_getElem? hx, rfl⟩))) (by omega)
          have HT : Hid (cs.take (j + 1) = cs.take j ++ [x]) := by show _ = _; rw [List.take_add_one, hx]; rfl
          have bX : Blk W X 60 #[.string x.name, .slice sa sn sc, .int .i64 x.ty.base] := by rw [← hW]; exact Blk.new' _ X 60 _ hX
          have bR : Blk W R 28 #[vk, vk2] := by rw [← hW]; exact hb2.alloc _
          have bNW := hb0.alloc (.cells #[.string x.name, .slice sa sn sc, .int .i64 x.ty.base] 60)
          have bN1W := hb1.alloc (.cells #[.string x.name, .slice sa sn sc, .int .i64 x.ty.base] 60)
          have rowW := hrow.alloc (.cells #[.string x.name, .slice sa sn sc, .int .i64 x.ty.base] 60)
          rw [hW] at bNW bN1W rowW
          have hmkW : MkC W (R + 1) vk2 ps := by rw [← hW]; exact hmk.bel ((Below.refl _ _).alloc (Nat.le_refl _) _)
          have blW : Below N w W := by rw [← hW]; exact hbl.alloc (by have := hb0.lt; omega) _
          have hsW : Holds W (fun b => b < N) x.ty.args (.slice sa sn sc) := hs.belN (fun b hb => hb) blW
          have hMw : R + 1 ≤ W.heap.size := bR.lt
          have hnR2 : vk2.ownBlock ≠ some R := fun e => by have := (hmkW.lt R e).1; omega
          have hn02 : vk2.ownBlock ≠ some N := fun e => by have := (hmkW.lt N e).1; omega
          have hn12 : vk2.ownBlock ≠ some (N + 1) := fun e => by have := (hmkW.lt (N + 1) e).1; omega
          clear q0 q1 q2 hx hs hmk hrow hb0 hb1 hb2
          go_wp2_with fail
          rename_i K Q' hKs
          refine (wpIn_wide (n := 9)).1 ?_
          show Code.wpIn Fence.wide 9 Tryz.prog (Code.region 10 _ true) _ (actG N R X k nc j (fun | 0 => tab (.slice a k cap) (.slice (some ⟨g, o, none⟩) nc cap') | 5 => u5 | 9 => .slice a k cap | 13 => u13 | 14 => u14 | 15 => u15 | 16 => u16 | 17 => u17 | 18 => u18 | 19 => u19 | 20 => u20 | 21 => u21 | 22 => u22 | 24 => .slice (some ⟨g, o, none⟩) nc cap' | 28 => .pointer (some ⟨g, o + j * 3, none⟩) | 29 => .agg #[.string x.name, .slice sa sn sc, .int .i64 x.ty.base] | 42 => u42 | _ => undef) (fun | 30 => u30 | 31 => u31 | 32 => u32 | 33 => u33 | 34 => u34 | 35 => u35 | 36 => u36 | 37 => u37 | 38 => u38 | 39 => u39 | 40 => u40 | 41 => u41 | _ => undef)) W
          refine region_spine [(0, 0), (1, 0), (2, 0), (3, 0), (4, 0), (5, 0), (6, 0), (7, 0), (8, 0), (9, 0), (11, 1)] [10, 12] (fun s => Nat.ble 30 s && Nat.ble s 41) (VG R (R + 1) X W.heap.size j vk2 (.slice sa sn sc) x (cs.take j)) (CG W R (R + 1) j vk vk2 x (cs.take j)) (by kernel_rfl) (by kernel_rfl) (by kernel_rfl) (by kernel_rfl) (fun _ _ _ _ _ h hb => h.mono hb) (fun _ _ _ h hb => h.mono hb) ⟨fun _ => (Below.refl _ _).drew, (fun e => by cases e), (fun e => by cases e)⟩ ⟨?_, ?_, ?_, ?_, ?_, ?_, ?_, ?_, ?_, ?_, ?_, trivial⟩ ⟨?_, ?_, trivial⟩ ?_
          · intro o ho p hp _ z w hC hk K' hK
            cases ho
            obtain rfl : p = 0 := by omega
            have hK3 := hK (.pointer (some ⟨R, 1, none⟩)) w (fun s hs => by cases hs; exact ⟨fun _ => rfl, by omega, by omega, by omega, by omega, by omega, by omega, by omega, by omega, by omega⟩) (Below.refl _ _)
            simp only [over_actG] at hK3 ⊢
            clear hK hk
            unfold actG at *
            refine want_plain rfl ?_
            go_simp
            exact hK3
          · intro o ho p hp _ z w hC hk K' hK
            cases ho
            obtain rfl : p = 0 := by omega
            have hK3 := hK vk2 w (fun s hs => by cases hs; exact ⟨by omega, fun _ => rfl, by omega, by omega, by omega, by omega, by omega, by omega, by omega, by omega⟩) (Below.refl _ _)
            have e30 : z 30 = .pointer (some ⟨R, 1, none⟩) := (hk 30 (by decide +kernel) rfl).1 (.inl rfl)
            have g0 := (cat (hC.1 rfl) bR.lt).trans (bR.cell 1)
            simp only [over_actG] at hK3 ⊢
            clear hK hk
            unfold actG at *
            simp only [e30] at hK3 ⊢
            refine want_plain rfl ?_
            go_simp
            exact hK3
          · intro o ho p hp _ z w hC hk K' hK
            cases ho
            obtain rfl : p = 0 := by omega
            have hK3 := hK (.pointer (some ⟨X, 0, none⟩)) w (fun s hs => by cases hs; exact ⟨by omega, by omega, fun _ => rfl, by omega, by omega, by omega, by omega, by omega, by omega, by omega⟩) (Below.refl _ _)
            simp only [over_actG] at hK3 ⊢
            clear hK hk
            unfold actG at *
            refine want_plain rfl ?_
            go_simp
            exact hK3
          · intro o ho p hp _ z w hC hk K' hK
            cases ho
            obtain rfl : p = 0 := by omega
            have hK3 := hK (.string x.name) w (fun s hs => by cases hs; exact ⟨by omega, by omega, by omega, fun _ => rfl, by omega, by omega, by omega, by omega, by omega, by omega⟩) (Below.refl _ _)
            have e32 : z 32 = .pointer (some ⟨X, 0, none⟩) := (hk 32 (by decide +kernel) rfl).2.2.1 rfl
            have g0 := (cat (hC.1 rfl) bX.lt).trans (bX.cell 0)
            simp only [over_actG] at hK3 ⊢
            clear hK hk
            unfold actG at *
            simp only [e32] at hK3 ⊢
            refine want_plain rfl ?_
            go_simp
            exact hK3
          · intro o ho p hp _ z w hC hk K' hK
            cases ho
            have e33 : z 33 = .string x.name := (hk 33 (by decide +kernel) rfl).2.2.2.1 (.inl rfl)
            have hcall := Clone_calls x.name hnx w
            have hK3 := fun (w2 : World) (hb2 : Below w.heap.size w w2) => hK (.string x.name) w2 (fun s hs => by cases hs; exact ⟨by omega, by omega, by omega, fun _ => rfl, by omega, by omega, by omega, by omega, by omega, by omega⟩) hb2
            simp only [over_actG] at hK3 ⊢
            clear hK hk
            unfold actG at *
            simp only [e33] at hK3 ⊢
            refine want_plain rfl ?_
            go_simp
            refine ⟨trivial, (callsIn_wide.2 hcall).mono ?_⟩
            rintro e w2 ⟨rfl, hb2⟩
            exact hK3 w2 hb2
          · intro o ho p hp _ z w hC hk K' hK
            cases ho
            obtain rfl : p = 0 := by omega
            have hK3 := hK (.pointer (some ⟨X, 1, none⟩)) w (fun s hs => by cases hs; exact ⟨by omega, by omega, by omega, by omega, fun _ => rfl, by omega, by omega, by omega, by omega, by omega⟩) (Below.refl _ _)
            simp only [over_actG] at hK3 ⊢
            clear hK hk
            unfold actG at *
            refine want_plain rfl ?_
            go_simp
            exact hK3
          · intro o ho p hp _ z w hC hk K' hK
            cases ho
            obtain rfl : p = 0 := by omega
            have hK3 := hK (tv (.slice sa sn sc) x.ty.base) w (fun s hs => by cases hs; exact ⟨by omega, by omega, by omega, by omega, by omega, fun _ => rfl, by omega, by omega, by omega, by omega⟩) (Below.refl _ _)
            have e35 : z 35 = .pointer (some ⟨X, 1, none⟩) := (hk 35 (by decide +kernel) rfl).2.2.2.2.1 rfl
            have g0 := (cat (hC.1 rfl) bX.lt).trans (bX.cell 1)
            have g1 := (cat (hC.1 rfl) bX.lt).trans (bX.cell 2)
            simp only [over_actG] at hK3 ⊢
            clear hK hk
            unfold actG at *
            simp only [e35] at hK3 ⊢
            refine want_plain rfl ?_
            go_simp
            exact hK3
          · intro o ho p hp _ z w hC hk K' hK
            cases ho
            obtain rfl : p = 0 := by omega
            have e36 : z 36 = tv (.slice sa sn sc) x.ty.base := (hk 36 (by decide +kernel) rfl).2.2.2.2.2.1 rfl
            have hB := hC.1 rfl
            have hcall := freshType_calls x.ty (fun b => b < N) (.slice sa sn sc) w (hsW.bel hB) (by have := hfx.2; omega)
            have hK3 := fun (w2 : World) (ya : Option Addr) (yn yc : Nat) (hv2 : Holds w2 (fun b => W.heap.size ≤ b) x.ty.args (.slice ya yn yc)) (hb2 : Below w.heap.size w w2) => hK (tv (.slice ya yn yc) x.ty.base) w2 (fun s hs => by cases hs; exact ⟨by omega, by omega, by omega, by omega, by omega, by omega, fun _ _ => ⟨ya, yn, yc, rfl, hv2⟩, by omega, by omega, by omega⟩) hb2
            simp only [over_actG] at hK3 ⊢
            clear hK hk
            unfold actG at *
            simp only [e36] at hK3 ⊢
            refine want_plain rfl ?_
            go_simp
            refine ⟨trivial, (callsIn_wide.2 hcall).mono ?_⟩
            rintro e w2 ⟨v2, rfl, hv2, hb2⟩
            obtain ⟨ya, yc, rfl, _⟩ := hv2.shape
            exact hK3 w2 ya _ yc (hv2.mono fun b _ h => Nat.le_trans hB.size h) hb2
          · intro o ho p hp _ z w hC hk K' hK
            cases ho
            obtain rfl : p = 0 := by omega
            have e34 : z 34 = .string x.name := (hk 34 (by decide +kernel) rfl).2.2.2.1 (.inr rfl)
            obtain ⟨ya, yn, yc, e37, h37⟩ := (hk 37 (by decide +kernel) rfl).2.2.2.2.2.2.1 rfl rfl
            have hK3 := hK (.agg #[.string x.name, .slice ya yn yc, .int .i64 x.ty.base]) w (fun s hs => by cases hs; exact ⟨by omega, by omega, by omega, by omega, by omega, by omega, by omega, fun _ _ => ⟨ya, yn, yc, rfl, h37⟩, by omega, by omega⟩) (Below.refl _ _)
            simp only [over_actG] at hK3 ⊢
            clear hK hk
            unfold actG at *
            simp only [e34, e37] at hK3 ⊢
            refine want_plain rfl ?_
            go_simp
            exact hK3
          · intro o ho p hp _ z w hC hk K' hK
            cases ho
            obtain rfl : p = 0 := by omega
            obtain ⟨ya, yn, yc, e38, h38⟩ := (hk 38 (by decide +kernel) rfl).2.2.2.2.2.2.2.1 rfl rfl
            have hK3 := hK (.slice (some ⟨w.heap.size, 0, none⟩) 1 1) (w.alloc (.cells #[.string x.name, .slice ya yn yc, .int .i64 x.ty.base] 60)) (fun s hs => by cases hs; exact ⟨by omega, by omega, by omega, by omega, by omega, by omega, by omega, by omega, fun _ _ => ⟨w.heap.size, ya, yn, yc, rfl, Blk.new w 60 _, h38.alloc _⟩, by omega⟩) ((Below.refl _ _).alloc (Nat.le_refl _) _)
            simp only [over_actG] at hK3 ⊢
            clear hK hk
            unfold actG at *
            simp only [e38] at hK3 ⊢
            refine want_plain rfl ?_
            go_simp
            exact hK3
          · intro o ho p hp _ z w hC hk K' hK
            cases ho
            have hK3 := hK (.pointer (some ⟨R, 1, none⟩)) w (fun s hs => by cases hs; exact ⟨fun _ => rfl, by omega, by omega, by omega, by omega, by omega, by omega, by omega, by omega, by omega⟩) (Below.refl _ _)
            simp only [over_actG] at hK3 ⊢
            clear hK hk
            unfold actG at *
            refine want_plain rfl ?_
            go_simp
            exact hK3
          · intro o ho z w hC hk K' hK
            cases ho
            have e31 : z 31 = vk2 := (hk 31 (by decide +kernel) rfl).2.1 rfl
            obtain ⟨g9, ya, yn, yc, e39, b39, h39⟩ := (hk 39 (by decide +kernel) rfl).2.2.2.2.2.2.2.2.1 rfl rfl
            have hB := hC.1 rfl
            have hmw := hmkW.bel hB
            have hrw := hmw.row
            rw [hpl] at hrw
            simp only [over_actG] at hK ⊢
            refine want_plain rfl (append_in rfl (.tmp 31) (.tmp 39) 26 rfl (R + 1) 60 i47 (.agg #[.string ⟨#[]⟩, .slice none 0 0, .int .i64 0]) 3 48 Tryz.underlying26 hi47 hz470 hz471 hz472 rfl (by decide) vk2 j (ccells ps) e31 hrw ⟨g9, 0, none⟩ 1 1 [.string x.name, .slice ya yn yc, .int .i64 x.ty.base] e39 rfl ?_ (by simp [Value.oneCell']) (by omega) (by unfold maxLen; omega) (by omega) (by have := hB.size; omega) ?_)
            · intro i u hi
              have e : ((⟨g9, 0, none⟩ : Addr).add i) = ⟨g9, i, none⟩ := by simp [Addr.add]; omega
              rw [e, b39.cell i]
              simpa using hi
            · intro g cap w' hown hgrow hat hlt
              have hmk' := hmw.snoc (cap := cap) hpl h39 (by omega) (fun b hb => (hmkW.lt b hb).2) hgrow hat hown
              refine hK _ w' (fun i hs => by cases hs; exact ⟨by omega, by omega, by omega, by omega, by omega, by omega, by omega, by omega, by omega, fun _ => ⟨by omega, ⟨g, cap, rfl⟩, ps ++ [(.slice ya yn yc, x)], hmk', by rw [List.length_append, hpl]; rfl, by rw [List.map_append, HP.out]; rfl⟩⟩) ⟨by omega, fun _ => ?_, by omega⟩ (fun i y h => ⟨h.1, h.2.1, h.2.2.1, h.2.2.2.1, h.2.2.2.2.1, h.2.2.2.2.2.1, by omega, by omega, by omega, fun e => by have := (h.2.2.2.2.2.2.2.2.2 e).1; omega⟩)
              exact ⟨hgrow.os.trans hB.os, hgrow.tape.trans hB.tape, hgrow.output.trans hB.output, Nat.le_trans hB.size hgrow.size, fun i hi hn => (hgrow.block i (Nat.lt_of_lt_of_le hi hB.size) hn).trans (hB.block i hi)⟩
          · intro o ho z w hC hk K' hK
            cases ho
            have e41 : z 41 = .pointer (some ⟨R, 1, none⟩) := (hk 41 (by decide +kernel) rfl).1 (.inr rfl)
            obtain ⟨_, ⟨g9, c9, e40⟩, ps', hm', hl', hp'⟩ := (hk 40 (by decide +kernel) rfl).2.2.2.2.2.2.2.2.2 rfl
            have hG := hC.2.1 rfl
            have hbR : Blk w R 28 #[vk, vk2] := bR.kept hG (fun e => hnR2 e.symm)
            have f0 := hbR.frozen 1
            have p0 := hbR.cell 1
            rw [e40] at hm'
            have hK3 := hK undef (w.setCell ⟨R, 1, none⟩ (.slice (some ⟨g9, 0, none⟩) (j + 1) c9)) (fun i hs => by cases hs) ⟨by omega, by omega, fun _ => ⟨_, hbR.set 1 _, ⟨ps', hm'.set (by omega) 1 _, hl', hp'⟩, w, hG, (Only.refl _ _).set (by simp) 1 _⟩⟩ (fun i y h => ⟨h.1, h.2.1, h.2.2.1, h.2.2.2.1, h.2.2.2.2.1, h.2.2.2.2.2.1, by omega, by omega, by omega, fun e => by
              obtain ⟨_, h1, ps'', h2, h3⟩ := h.2.2.2.2.2.2.2.2.2 e
              exact ⟨by omega, h1, ps'', h2.set (by omega) 1 _, h3⟩⟩)
            simp only [over_actG] at hK3 ⊢
            clear hK hk
            unfold actG at *
            simp only [e41, e40] at hK3 ⊢
            refine want_plain rfl ?_
            go_simp
            exact hK3
          · intro z w' hC _
            obtain ⟨v', hbR', ⟨ps', hm', hl', hp'⟩, w1, hG, hO⟩ := hC.2.2 rfl
            rw [over_actG]
            refine hKs _ _ ?_
            unfold actG
            have hb0' := (bNW.kept hG (fun e => hn02 e.symm)).only hO (by simp; omega)
            have hb1' := (bN1W.kept hG (fun e => hn12 e.symm)).only hO (by simp; omega)
            have hrow' := row_only (rowW.kept hG (rows_ne rowW hmkW.row (by decide))) hO (fun b hb => by have := (rowW.lt b hb).1; simp; omega)
            have hbl' : Below N w w' := (blW.grown hG (by omega) (fun i hi => by have := (hmkW.lt i hi).1; omega)).trans (hO.below (by have := hG.size; omega) (fun i hi => by simp at hi; omega))
            rw [← HT.out] at hp'
            go_wp2
            exact ⟨⟨j + 1, v', ps', by omega, by go_num, hl', hp', hb0', hb1', hbR', hrow', hm', hbl'⟩, by simp [intOf]; omega⟩
        · obtain rfl : j = nc := by omega
          have hh1 : HoldsS wr (fun b => R + 1 ≤ b) bs vk := holdsS_row (by rw [HNB.out, HX.out]; exact hrow)
          have hh2 := hmk.holds
          rw [HP.out, List.take_of_length_le (by rw [HNC.out]; exact Nat.le_refl _)] at hh2
          clear hrow hmk HP HX hpl
          have t0 := hb2.cell 0
          have t1 := hb2.cell 1
          have s0 := hb1.cell 0
          have s1 := hb1.cell 1
          have f0 := hb1.frozen 0
          have f1 := hb1.frozen 1
          obtain ⟨xa, xc, rfl, _⟩ := hh1.shape
          obtain ⟨ya, yc, rfl, _⟩ := hh2.shape
          generalize bs.length = xn at *
          generalize cs.length = yn at *
          have z2 : decide ((j : Int) < (j : Int)) = false := by simp
          have hlN := hb1.lt
          have c0 := (hb1.set 0 (.slice xa xn xc)).set 1 (.slice ya yn yc)
          have hO : Only [N + 1] wr ((wr.setCell ⟨N + 1, 0, none⟩ (.slice xa xn xc)).setCell ⟨N + 1, 1, none⟩ (.slice ya yn yc)) := ((Only.refl _ _).set (by simp) 0 _).set (by simp) 1 _
          have hk1 := (hh1.only hO (fun b hb => by simp; omega)).mono (ok' := fun b => N ≤ b) (fun b _ hb => by omega)
          have hk2 := (hh2.only hO (fun b hb => by simp; omega)).mono (ok' := fun b => N ≤ b) (fun b _ hb => by omega)
          have hB5 := hbl.trans (hO.below (n := N) (by omega) (fun i hi => by simp at hi; omega))
          clear hO hh1 hh2
          go_wp2
          generalize (wr.setCell ⟨N + 1, 0, none⟩ (.slice xa xn xc)).setCell ⟨N + 1, 1, none⟩ (.slice ya yn yc) = W5 at *
          have d0 : W5.cell? ⟨N + 1, 0, none⟩ = some (.slice xa xn xc) := c0.cell 0
          have d1 : W5.cell? ⟨N + 1, 1, none⟩ = some (.slice ya yn yc) := c0.cell 1
          exact bodyPost_ret (v := tab (.slice xa xn xc) (.slice ya yn yc)) (by simp [results, Tryz.results22, go_sem, d0, d1]) rfl ⟨_, _, rfl, hk1, hk2, hB5⟩

end Go.Proofs.YtdihplmlbfggjaaGreatDoor

