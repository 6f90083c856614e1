/-
  LxSplitA: several texts in one file.
-/
import Derived.Test.YtdihplmlbfggjaaGreatDoorLxFronts
import Derived.Test.YtdihplmlbfggjaaGreatDoorLxBase
import Derived.Laws.AppendOwn
import Derived.Laws.OwnMore
import Derived.Maps.AppendAt
import Derived.RangeFuncBox
import Derived.OwnWalk
/-
  The contracts of lex.cutter and of the function that it hands back: it cuts the next token, and keeps how far it has come.
-/
namespace Go.Proofs.YtdihplmlbfggjaaGreatDoor.Lx
open Go Go.RowKit Go.Shelf Plain Lex

/-- A region that draws its order, whose first n operations read alone and whose others are forced: the world behind the draw under a name. -/
theorem region_tail {P : Program} {id : Nat} {Q : Exit → Act → World → Prop} {a : Act} {w : World} {l : List Oper} (n : Nat) (hm : P.follows .mixedOrders = true) (hB : Region.lexTailB .any l.toArray n = true)
    (h : ∀ W, W = w.drew → wpStill P l.toArray W (fun a' => wpList P l.toArray Q (l.drop n) a' W) (l.take n) a) : (Code.region id l.toArray true).wp P Q a w :=
  wp_region_still_tail n hm hB (h _ rfl)

theorem flipW {P : Program} {f : FuncId} {args : Array Value} {w : World} {v : Value} (h : Calls P f args w fun e w' => e = .returned v ∧ w = w') : Calls P f args w fun e w' => e = .returned v ∧ w' = w :=
  h.mono fun _ _ ⟨a, b⟩ => ⟨a, b.symm⟩

end Go.Proofs.YtdihplmlbfggjaaGreatDoor.Lx

/-
  The contract of lex.blame: the fault of a token, at its place.
-/
namespace Go.Proofs.YtdihplmlbfggjaaGreatDoor.Lx
open Go Go.RowKit Go.Shelf Plain Lex

theorem badWord_some (kd : Nat) (t : ByteArray) (h : ¬ kd = 0) : badWord kd t = headB t := by
  unfold badWord; rw [if_neg]; exact fun x => h x.1
theorem one_byte (t : ByteArray) (h : t.size = 1) : t.data.toList = [t[0]] := by
  have := drop_cons t 0 (by omega)
  rw [List.drop_zero, List.drop_eq_nil_of_le (by simp [h])] at this
  exact this
theorem badWord_out (t : ByteArray) (h : t.size = 1) (hb : t[0].toNat < 33 ∨ 126 < t[0].toNat) : badWord 0 t = ⟨#[]⟩ := by
  unfold badWord; rw [if_pos]; refine ⟨rfl, ?_⟩
  rw [one_byte t h]; simpa using hb
theorem badWord_in (t : ByteArray) (h : t.size = 1) (hb : ¬ (t[0].toNat < 33 ∨ 126 < t[0].toNat)) : badWord 0 t = headB t := by
  unfold badWord; rw [if_neg]; intro hx
  have := hx.2
  rw [one_byte t h] at this
  exact hb (this _ (by simp))

end Go.Proofs.YtdihplmlbfggjaaGreatDoor.Lx

/-
  Slices of tokens: what they hold, and that worlds which differ elsewhere keep them.
-/
namespace Go.Proofs.YtdihplmlbfggjaaGreatDoor.Lx
open Go Go.RowKit Go.Shelf Plain Lex

/-- A token's cells. -/
def tcell (t : Tok) : List Value := [.int .i64 t.kind, .string t.text, .int .i64 t.pos]
/-- Tokens' cells. -/
def tcells : List Tok → List Value
  | [] => []
  | t :: l => tcell t ++ tcells l
theorem tcells_append (a b : List Tok) : tcells (a ++ b) = tcells a ++ tcells b := by
  induction a with
  | nil => rfl
  | cons t a ih => simp [tcells, ih]
theorem tcells_length (a : List Tok) : (tcells a).length = a.length * 3 := by
  induction a with
  | nil => rfl
  | cons t a ih => simp [tcells, tcell, ih]; omega
theorem tcells_get (a : List Tok) (i : Nat) (t : Tok) (h : a[i]? = some t) : (tcells a)[i * 3]? = some (.int .i64 t.kind) ∧ (tcells a)[i * 3 + 1]? = some (.string t.text) ∧ (tcells a)[i * 3 + 2]? = some (.int .i64 t.pos) := by
  induction a generalizing i with
  | nil => simp at h
  | cons u a ih =>
    cases i with
    | zero => simp at h; subst h; simp [tcells, tcell]
    | succ i =>
      have := ih i (by simpa using h)
      have e : ∀ j, (tcells (u :: a))[(i + 1) * 3 + j]? = (tcells a)[i * 3 + j]? := by
        intro j
        simp only [tcells, tcell]
        rw [List.getElem?_append_right (by simp; omega)]
        congr 1
        simp; omega
      have e0 := e 0
      simp only [Nat.add_zero] at e0
      rw [e0, e 1, e 2]
      exact this

/-- The slice v holds just these tokens (of type e), in a block of its own from base on. -/
def TRow (w : World) (base : Nat) (e : TypeId) (v : Value) (ts : List Tok) : Prop := w.ownsRow base e 3 v ts.length (tcells ts)

theorem TRow.nil (w : World) (base : Nat) (e : TypeId) : TRow w base e (.slice none 0 0) [] := World.ownsRow_nil w base e 3
theorem TRow.only {w w' : World} {base : Nat} {e : TypeId} {v : Value} {ts : List Tok} {S : List Nat} (h : TRow w base e v ts) (hO : Only S w w') (hS : ∀ k ∈ S, k < base) : TRow w' base e v ts := by
  obtain ⟨h1, h2⟩ := h
  refine ⟨h1, ?_⟩
  rcases h2 with h2 | ⟨g, cap, cur, e1, e2, e3, e4⟩
  · exact .inl h2
  · refine .inr ⟨g, cap, cur, e1, e2, ?_, e4⟩
    have hlt : g < w.heap.size := (Array.getElem?_eq_some_iff.1 e3).1
    rw [hO.block g hlt (fun hm => by have := hS g hm; omega)]
    exact e3
theorem TRow.below {w w' : World} {base : Nat} {e : TypeId} {v : Value} {ts : List Tok} (h : TRow w base e v ts) (hb : Below w.heap.size w w') : TRow w' base e v ts :=
  h.only (S := []) (Only.of_below' hb) (by simp)
theorem TRow.mono {w : World} {base base' : Nat} {e : TypeId} {v : Value} {ts : List Tok} (h : TRow w base e v ts) (hb : base' ≤ base) : TRow w base' e v ts := by
  obtain ⟨h1, h2⟩ := h
  refine ⟨h1, ?_⟩
  rcases h2 with h2 | ⟨g, cap, cur, e1, e2, e3⟩
  · exact .inl h2
  · exact .inr ⟨g, cap, cur, e1, by omega, e3⟩
theorem TRow.drew {w : World} {base : Nat} {e : TypeId} {v : Value} {ts : List Tok} (h : TRow w base e v ts) : TRow w.drew base e v ts := h
theorem TRow.alloc {w : World} {base : Nat} {e : TypeId} {v : Value} {ts : List Tok} (h : TRow w base e v ts) (o : Obj) : TRow (w.alloc o) base e v ts :=
  h.only (S := []) ((Only.refl [] w).alloc o) (by simp)
/-- The slice's shape: a header of the right length, and where the tokens lie. -/
theorem TRow.shape {w : World} {base : Nat} {e : TypeId} {v : Value} {ts : List Tok} (h : TRow w base e v ts) : ∃ a cap, v = .slice a ts.length cap ∧ ts.length ≤ cap ∧
    (∀ i t, ts[i]? = some t → ∃ g, a = some ⟨g, 0, none⟩ ∧ base ≤ g ∧ g < w.heap.size ∧ w.cell? ⟨g, i * 3, none⟩ = some (.int .i64 t.kind) ∧ w.cell? ⟨g, i * 3 + 1, none⟩ = some (.string t.text) ∧ w.cell? ⟨g, i * 3 + 2, none⟩ = some (.int .i64 t.pos)) := by
  have h' := h
  obtain ⟨h1, h2⟩ := h
  rcases h2 with ⟨rfl, h2⟩ | ⟨g, cap, cur, rfl, e2, e3, e4, e5, e6⟩
  · refine ⟨none, 0, by rw [h2], by omega, ?_⟩
    intro i t ht
    have := (List.getElem?_eq_some_iff.1 ht).1
    omega
  · refine ⟨_, cap, rfl, e4, ?_⟩
    intro i t ht
    have hi := (List.getElem?_eq_some_iff.1 ht).1
    obtain ⟨g0, g1, g2⟩ := tcells_get ts i t ht
    have hlt : g < w.heap.size := (Array.getElem?_eq_some_iff.1 e3).1
    have hc := World.ownsRow.cellAt (show w.ownsRow base e 3 (.slice (some ⟨g, 0, none⟩) ts.length cap) ts.length (tcells ts) from h')
    exact ⟨g, rfl, e2, hlt, (hc _ (by omega)).trans g0, (hc _ (by omega)).trans g1, (hc _ (by omega)).trans g2⟩

/-- append(s, x) first lays x in a new block of its own. -/
theorem cell_three_new (w : World) (x y z : Value) (t : TypeId) : ∀ j u, [x, y, z][j]? = some u → (w.alloc (.cells #[x, y, z] t)).cell? ((⟨w.heap.size, 0, none⟩ : Addr).add j) = some u := by
  intro j u h
  have hb := Blk.new w t #[x, y, z]
  have e : ((⟨w.heap.size, 0, none⟩ : Addr).add j) = ⟨w.heap.size, j, none⟩ := by simp [Addr.add]; omega
  rw [e, hb.cell j]
  simpa using h

theorem fr_zero (s : ByteArray) (a : Nat) (h : (fr s a).1 = 0) : (fr s a).2 = 1 := by
  unfold fr at *
  cases hl : s.data.toList.drop a with
  | nil => rw [hl] at h; simp [front] at h
  | cons b r =>
    rw [hl] at h
    unfold front at *
    simp only at *
    split
    · rename_i h1; rw [if_pos h1] at h; simp at h
    · rename_i h1
      rw [if_neg h1] at h
      split
      · rename_i h2; rw [if_pos h2] at h; simp at h
      · rename_i h2
        rw [if_neg h2] at h
        split
        · rename_i h3; rw [if_pos h3] at h; simp at h
        · rename_i h3
          rw [if_neg h3] at h
          split
          · rfl
          · rfl

/-- What Split tells of a text: the tokens, or none; and the fault. -/
def outT (r : List Tok × Option Bad) : List Tok := match r.2 with
  | none => r.1
  | some _ => []
def outF (s : ByteArray) (r : Option Bad) : Array Value := match r with
  | none => #[.int .i64 0, .int .i64 0, .int .i64 0, .string ⟨#[]⟩]
  | some b => #[.int .i64 b.code, .int .i64 ((markAt s b.pos).1 : Int), .int .i64 ((markAt s b.pos).2 : Int), .string b.word]

end Go.Proofs.YtdihplmlbfggjaaGreatDoor.Lx

/-
  The contract of lex.Split: the tokens of any text, or its first fault.
-/
namespace Go.Proofs.YtdihplmlbfggjaaGreatDoor.Lx
open Go Go.RowKit Go.Shelf Plain Lex

/-- The number that a box holds. -/
def boxNat (w : World) (A : Nat) : Nat := match w.cell? ⟨A, 0, none⟩ with
  | some (.int _ z) => z.toNat
  | _ => 0
theorem boxNat_of {w : World} {A k : Nat} {t : TypeId} (h : Blk w A t #[.int .i64 k]) : boxNat w A = k := by
  unfold boxNat
  rw [show w.cell? ⟨A, 0, none⟩ = some (.int .i64 k) from h.cell 0]
  simp

end Go.Proofs.YtdihplmlbfggjaaGreatDoor.Lx

