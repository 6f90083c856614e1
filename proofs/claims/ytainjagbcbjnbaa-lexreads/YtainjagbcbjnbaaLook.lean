/-
  What a reader holds; the contracts of lex.look and of the document's Peek.
-/
import Derived.Test.YtainjagbcbjnbaaSplits
import Derived.BigQuiet
namespace Go.Proofs.Ytainjagbcbjnbaa
open Go Go.RowKit Go.Shelf Go.Sort Plain Lex

/-- The token that is told behind the last one. -/
def endT (s : ByteArray) : Tok := ⟨4, ⟨#[]⟩, s.size⟩
/-- The token n behind the next one. -/
def pk (ts : List Tok) (s : ByteArray) (p : Nat) (n : Int) : Tok := if n < 0 then endT s else (ts[p + n.toNat]?).getD (endT s)
/-- A token as a value. -/
def agg (t : Tok) : Value := .agg #[.int .i64 t.kind, .string t.text, .int .i64 t.pos]

theorem TRow.keep {w w' : World} {base : Nat} {e : TypeId} {v : Value} {ts : List Tok} {S : List Nat} (h : TRow w base e v ts) (hO : Only S w w') (hS : ∀ k ∈ S, v.ownBlock ≠ some k) : TRow w' base e v ts := by
  obtain ⟨h1, h2⟩ := h
  refine ⟨h1, ?_⟩
  rcases h2 with h2 | ⟨g, cap, cur, e1, e2, e3, e4⟩
  · exact .inl h2
  · refine .inr ⟨g, cap, cur, e1, e2, ?_, e4⟩
    have hlt : g < w.heap.size := (Array.getElem?_eq_some_iff.1 e3).1
    rw [hO.block g hlt (fun hm => hS g hm (by rw [e1]; rfl))]
    exact e3

/-- A READER LIES AT BLOCK R (of type t), behind p of its tokens. -/
structure Rd (w : World) (t e : TypeId) (R base : Nat) (v : Value) (ts : List Tok) (s : ByteArray) (p : Nat) : Prop where
  blk : Blk w R t #[v, .string s, .int .i64 p]
  row : TRow w base e v ts
  le : p ≤ ts.length
  few : ts.length ≤ 300
  short : s.size ≤ 300
  apart : v.ownBlock ≠ some R
  small : ∀ t ∈ ts, t.text.size ≤ 300 ∧ t.pos ≤ s.size

theorem Rd.below {w w' : World} {t e : TypeId} {R base p : Nat} {v : Value} {ts : List Tok} {s : ByteArray} (h : Rd w t e R base v ts s p) (hb : Below w.heap.size w w') : Rd w' t e R base v ts s p :=
  ⟨h.blk.below hb h.blk.lt, h.row.below hb, h.le, h.few, h.short, h.apart, h.small⟩
theorem Rd.drew {w : World} {t e : TypeId} {R base p : Nat} {v : Value} {ts : List Tok} {s : ByteArray} (h : Rd w t e R base v ts s p) : Rd w.drew t e R base v ts s p :=
  ⟨h.blk, h.row, h.le, h.few, h.short, h.apart, h.small⟩
theorem Rd.alloc {w : World} {t e : TypeId} {R base p : Nat} {v : Value} {ts : List Tok} {s : ByteArray} (h : Rd w t e R base v ts s p) (o : Obj) : Rd (w.alloc o) t e R base v ts s p :=
  ⟨h.blk.alloc o, h.row.alloc o, h.le, h.few, h.short, h.apart, h.small⟩
theorem Rd.only {w w' : World} {t e : TypeId} {R base p : Nat} {v : Value} {ts : List Tok} {s : ByteArray} {S : List Nat} (h : Rd w t e R base v ts s p) (hO : Only S w w') (hR : R ∉ S) (hS : ∀ k ∈ S, v.ownBlock ≠ some k) : Rd w' t e R base v ts s p :=
  ⟨h.blk.only hO hR, h.row.keep hO hS, h.le, h.few, h.short, h.apart, h.small⟩

theorem Rd.pk {w : World} {t e : TypeId} {R base p : Nat} {v : Value} {ts : List Tok} {s : ByteArray} (h : Rd w t e R base v ts s p) (n : Int) : (Go.Proofs.Ytainjagbcbjnbaa.pk ts s p n).text.size ≤ 300 ∧ (Go.Proofs.Ytainjagbcbjnbaa.pk ts s p n).pos ≤ s.size := by
  have he : (endT s).text.size ≤ 300 ∧ (endT s).pos ≤ s.size := ⟨Nat.zero_le _, Nat.le_refl _⟩
  unfold Go.Proofs.Ytainjagbcbjnbaa.pk
  split
  · exact he
  · cases hx : ts[p + n.toNat]? with
    | none => exact he
    | some t => exact h.small t (List.mem_of_getElem? hx)
/-- The reader's place, moved. -/
theorem Rd.move {w : World} {t e : TypeId} {R base p : Nat} {v : Value} {ts : List Tok} {s : ByteArray} (h : Rd w t e R base v ts s p) (q : Nat) (hq : q ≤ ts.length) : Rd (w.setCell ⟨R, 2, none⟩ (.int .i64 q)) t e R base v ts s q :=
  ⟨h.blk.set 2 _, h.row.keep ((Only.refl [R] w).set (by simp) 2 _) (fun k hk => by rw [List.mem_singleton.1 hk]; exact h.apart), hq, h.few, h.short, h.apart, h.small⟩

theorem pk_neg {ts : List Tok} {s : ByteArray} {p : Nat} {n : Int} (h : n < 0) : pk ts s p n = endT s := by unfold pk; rw [if_pos h]
theorem pk_past {ts : List Tok} {s : ByteArray} {p : Nat} {n : Int} (h0 : ¬ n < 0) (h : (ts.length : Int) - p ≤ n) : pk ts s p n = endT s := by
  unfold pk; rw [if_neg h0, List.getElem?_eq_none (by omega)]; rfl
theorem pk_in {ts : List Tok} {s : ByteArray} {p m : Nat} {t : Tok} (h : ts[p + m]? = some t) : pk ts s p (m : Int) = t := by
  unfold pk; rw [if_neg (by omega)]; simp [h]

set_option maxRecDepth 100000 in
set_option maxHeartbeats 3200000 in
theorem look_calls (R base : Nat) (v : Value) (ts : List Tok) (s : ByteArray) (p : Nat) (n : Int) (w : World) (hR : Rd w 90 46 R base v ts s p) :
    Calls Try.prog 44 #[.pointer (some ⟨R, 0, none⟩), .int .i64 n] w fun e w' => e = .returned (agg (pk ts s p n)) ∧ Below w.heap.size w w' := by
  obtain ⟨N, hN⟩ : ∃ N, w.heap.size = N := ⟨_, rfl⟩
  have HN : Hid (w.heap.size = N) := hN
  obtain ⟨hblk, hrow, hle, hfew, hshort, _, _⟩ := hR
  obtain ⟨a, cap, rfl, hcap, hat⟩ := hrow.shape
  have HA : Hid _ := hat
  have hRN : R < N := by rw [← hN]; exact hblk.lt
  clear hat hrow
  have hZ : Hid (∀ o, Blk (w.alloc o) R 90 #[.slice a ts.length cap, .string s, .int .i64 p]) := fun o => hblk.alloc o
  have q0 : ∀ o, (w.alloc o).cell? ⟨R, 0, none⟩ = some (.slice a ts.length cap) := fun o => (hblk.alloc o).cell 0
  have q1 : ∀ o, (w.alloc o).cell? ⟨R, 1, none⟩ = some (.string s) := fun o => (hblk.alloc o).cell 1
  have q2 : ∀ o, (w.alloc o).cell? ⟨R, 2, none⟩ = some (.int .i64 p) := fun o => (hblk.alloc o).cell 2
  have hw : IntKind.i64.wrap ((ts.length : Int) - (p : Int)) = (ts.length : Int) - (p : Int) := by rw [IntKind.wrap_i64]; omega
  have hfin : ∀ (t : Tok) (W : World) (tm : Array Value), pk ts s p n = t → Blk W N 46 #[.int .i64 0, .string ⟨#[]⟩, .int .i64 0] → Below N w W → tm[4]? = some (.pointer (some ⟨N, 0, none⟩)) →
      bodyPost Try.prog Try.f44 (fun e w' => e = Ending.returned (agg (pk ts s p n)) ∧ Below w.heap.size w w') .ret { tmps := tm, defers := [] }
        (((W.setCell ⟨N, 0, none⟩ (.int .i64 t.kind)).setCell ⟨N, 1, none⟩ (.string t.text)).setCell ⟨N, 2, none⟩ (.int .i64 t.pos)) := by
    intro t W tm ht hb hbl htm
    have g := ((hb.set 0 (.int .i64 t.kind)).set 1 (.string t.text)).set 2 (.int .i64 t.pos)
    have hbl5 := bset (i := 2) (bset (i := 1) (bset (i := 0) hbl (Nat.le_refl N) (.int .i64 t.kind)) (Nat.le_refl N) (.string t.text)) (Nat.le_refl N) (.int .i64 t.pos)
    generalize ((W.setCell ⟨N, 0, none⟩ (.int .i64 t.kind)).setCell ⟨N, 1, none⟩ (.string t.text)).setCell ⟨N, 2, none⟩ (.int .i64 t.pos) = W4 at *
    have x0 : W4.cell? ⟨N, 0, none⟩ = some (.int .i64 t.kind) := g.cell 0
    have x1 : W4.cell? ⟨N, 1, none⟩ = some (.string t.text) := g.cell 1
    have x2 : W4.cell? ⟨N, 2, none⟩ = some (.int .i64 t.pos) := g.cell 2
    exact bodyPost_ret (v := .agg #[.int .i64 t.kind, .string t.text, .int .i64 t.pos]) (by simp [results, Try.results44, go_sem, htm, x0, x1, x2]) rfl ⟨by rw [ht]; rfl, by rw [hN]; exact hbl5⟩
  have HF : Hid _ := hfin
  clear hfin
  have HB : Hid (Blk (w.alloc (.cells #[.int .i64 0, .string ⟨#[]⟩, .int .i64 0] 46)) N 46 #[.int .i64 0, .string ⟨#[]⟩, .int .i64 0] ∧ Below N w (w.alloc (.cells #[.int .i64 0, .string ⟨#[]⟩, .int .i64 0] 46))) := ⟨Blk.new' w N 46 _ hN, (Below.refl N w).alloc (by omega) _⟩
  by_cases h0 : n < 0
  · have HP : Hid (pk ts s p n = endT s) := pk_neg h0
    go_enter Try.func44, Try.ntmps44
    go_wp2_with fail
    go_quiet (fail)
    go_wp2
    exact HF.out (endT s) ((w.alloc _).drewN nq) _ HP.out HB.out.1 ⟨HB.out.2.os, HB.out.2.tape, HB.out.2.output, HB.out.2.size, HB.out.2.block⟩ rfl
  · have g0 : decide (n < 0) = false := by simpa using h0
    by_cases h1 : (ts.length : Int) - (p : Int) ≤ n
    · have HP : Hid (pk ts s p n = endT s) := pk_past h0 h1
      have g1 : decide ((ts.length : Int) - (p : Int) ≤ n) = true := by simpa using h1
      go_enter Try.func44, Try.ntmps44
      go_wp2_with fail
      go_quiet (fail)
      go_wp2
      exact HF.out (endT s) ((w.alloc _).drewN nq) _ HP.out HB.out.1 ⟨HB.out.2.os, HB.out.2.tape, HB.out.2.output, HB.out.2.size, HB.out.2.block⟩ rfl
    · have g1 : decide ((ts.length : Int) - (p : Int) ≤ n) = false := by simpa using h1
      obtain ⟨m, rfl⟩ : ∃ m : Nat, n = (m : Int) := ⟨n.toNat, by omega⟩
      obtain ⟨t, ht⟩ : ∃ t, ts[p + m]? = some t := ⟨_, List.getElem?_eq_getElem (by omega)⟩
      obtain ⟨g, rfl, _, hg, a0, a1, a2⟩ := HA.out _ t ht
      have HP : Hid (pk ts s p (m : Int) = t) := pk_in ht
      have hgN : g < N := by rw [← hN]; exact hg
      have r0 : ∀ o, (w.alloc o).cell? ⟨g, (p + m) * 3, none⟩ = some (.int .i64 t.kind) := fun o => (World.cell?_of_block (w := w) (Below.heap_alloc w o g hg)).trans a0
      have r1 : ∀ o, (w.alloc o).cell? ⟨g, (p + m) * 3 + 1, none⟩ = some (.string t.text) := fun o => (World.cell?_of_block (w := w) (Below.heap_alloc w o g hg)).trans a1
      have r2 : ∀ o, (w.alloc o).cell? ⟨g, (p + m) * 3 + 2, none⟩ = some (.int .i64 t.pos) := fun o => (World.cell?_of_block (w := w) (Below.heap_alloc w o g hg)).trans a2
      have y1 : (0 : Int) ≤ (p : Int) + (m : Int) := by omega
      have y2 : (p : Int) + (m : Int) < (ts.length : Int) := by omega
      have y3 : IntKind.i64.wrap ((p : Int) + (m : Int)) = (p : Int) + (m : Int) := by rw [IntKind.wrap_i64]; omega
      clear a0 a1 a2 ht
      go_enter Try.func44, Try.ntmps44
      go_wp2_with fail
      go_quiet (fail)
      go_wp2_with fail
      go_region
      go_wp2
      exact HF.out t ((w.alloc _).drewN (nq + 1)) _ HP.out HB.out.1 ⟨HB.out.2.os, HB.out.2.tape, HB.out.2.output, HB.out.2.size, HB.out.2.block⟩ rfl

set_option maxRecDepth 100000 in
set_option maxHeartbeats 3200000 in
theorem refPeek_calls (R base : Nat) (v : Value) (ts : List Tok) (s : ByteArray) (p : Nat) (n : Int) (w : World) (hR : Rd w 55 59 R base v ts s p) :
    Calls Try.prog 23 #[.pointer (some ⟨R, 0, none⟩), .int .i64 n] w fun e w' => e = .returned (agg (pk ts s p n)) ∧ Below w.heap.size w w' := by
  obtain ⟨N, hN⟩ : ∃ N, w.heap.size = N := ⟨_, rfl⟩
  have HN : Hid (w.heap.size = N) := hN
  obtain ⟨hblk, hrow, hle, hfew, hshort, _, _⟩ := hR
  obtain ⟨a, cap, rfl, hcap, hat⟩ := hrow.shape
  have HA : Hid _ := hat
  have hRN : R < N := by rw [← hN]; exact hblk.lt
  clear hat hrow
  have hZ : Hid (∀ o, Blk (w.alloc o) R 55 #[.slice a ts.length cap, .string s, .int .i64 p]) := fun o => hblk.alloc o
  have q0 : ∀ o, (w.alloc o).cell? ⟨R, 0, none⟩ = some (.slice a ts.length cap) := fun o => (hblk.alloc o).cell 0
  have q1 : ∀ o, (w.alloc o).cell? ⟨R, 1, none⟩ = some (.string s) := fun o => (hblk.alloc o).cell 1
  have q2 : ∀ o, (w.alloc o).cell? ⟨R, 2, none⟩ = some (.int .i64 p) := fun o => (hblk.alloc o).cell 2
  have hw : IntKind.i64.wrap ((ts.length : Int) - (p : Int)) = (ts.length : Int) - (p : Int) := by rw [IntKind.wrap_i64]; omega
  have hfin : ∀ (t : Tok) (W : World) (tm : Array Value), pk ts s p n = t → Blk W N 59 #[.int .i64 0, .string ⟨#[]⟩, .int .i64 0] → Below N w W → tm[4]? = some (.pointer (some ⟨N, 0, none⟩)) →
      bodyPost Try.prog Try.f23 (fun e w' => e = Ending.returned (agg (pk ts s p n)) ∧ Below w.heap.size w w') .ret { tmps := tm, defers := [] }
        (((W.setCell ⟨N, 0, none⟩ (.int .i64 t.kind)).setCell ⟨N, 1, none⟩ (.string t.text)).setCell ⟨N, 2, none⟩ (.int .i64 t.pos)) := by
    intro t W tm ht hb hbl htm
    have g := ((hb.set 0 (.int .i64 t.kind)).set 1 (.string t.text)).set 2 (.int .i64 t.pos)
    have hbl5 := bset (i := 2) (bset (i := 1) (bset (i := 0) hbl (Nat.le_refl N) (.int .i64 t.kind)) (Nat.le_refl N) (.string t.text)) (Nat.le_refl N) (.int .i64 t.pos)
    generalize ((W.setCell ⟨N, 0, none⟩ (.int .i64 t.kind)).setCell ⟨N, 1, none⟩ (.string t.text)).setCell ⟨N, 2, none⟩ (.int .i64 t.pos) = W4 at *
    have x0 : W4.cell? ⟨N, 0, none⟩ = some (.int .i64 t.kind) := g.cell 0
    have x1 : W4.cell? ⟨N, 1, none⟩ = some (.string t.text) := g.cell 1
    have x2 : W4.cell? ⟨N, 2, none⟩ = some (.int .i64 t.pos) := g.cell 2
    exact bodyPost_ret (v := .agg #[.int .i64 t.kind, .string t.text, .int .i64 t.pos]) (by simp [results, Try.results23, go_sem, htm, x0, x1, x2]) rfl ⟨by rw [ht]; rfl, by rw [hN]; exact hbl5⟩
  have HF : Hid _ := hfin
  clear hfin
  have HB : Hid (Blk (w.alloc (.cells #[.int .i64 0, .string ⟨#[]⟩, .int .i64 0] 59)) N 59 #[.int .i64 0, .string ⟨#[]⟩, .int .i64 0] ∧ Below N w (w.alloc (.cells #[.int .i64 0, .string ⟨#[]⟩, .int .i64 0] 59))) := ⟨Blk.new' w N 59 _ hN, (Below.refl N w).alloc (by omega) _⟩
  by_cases h0 : n < 0
  · have HP : Hid (pk ts s p n = endT s) := pk_neg h0
    go_enter Try.func23, Try.ntmps23
    go_wp2_with fail
    go_quiet (fail)
    go_wp2
    exact HF.out (endT s) ((w.alloc _).drewN nq) _ HP.out HB.out.1 ⟨HB.out.2.os, HB.out.2.tape, HB.out.2.output, HB.out.2.size, HB.out.2.block⟩ rfl
  · have g0 : decide (n < 0) = false := by simpa using h0
    by_cases h1 : (ts.length : Int) - (p : Int) ≤ n
    · have HP : Hid (pk ts s p n = endT s) := pk_past h0 h1
      have g1 : decide ((ts.length : Int) - (p : Int) ≤ n) = true := by simpa using h1
      go_enter Try.func23, Try.ntmps23
      go_wp2_with fail
      go_quiet (fail)
      go_wp2
      exact HF.out (endT s) ((w.alloc _).drewN nq) _ HP.out HB.out.1 ⟨HB.out.2.os, HB.out.2.tape, HB.out.2.output, HB.out.2.size, HB.out.2.block⟩ rfl
    · have g1 : decide ((ts.length : Int) - (p : Int) ≤ n) = false := by simpa using h1
      obtain ⟨m, rfl⟩ : ∃ m : Nat, n = (m : Int) := ⟨n.toNat, by omega⟩
      obtain ⟨t, ht⟩ : ∃ t, ts[p + m]? = some t := ⟨_, List.getElem?_eq_getElem (by omega)⟩
      obtain ⟨g, rfl, _, hg, a0, a1, a2⟩ := HA.out _ t ht
      have HP : Hid (pk ts s p (m : Int) = t) := pk_in ht
      have hgN : g < N := by rw [← hN]; exact hg
      have r0 : ∀ o, (w.alloc o).cell? ⟨g, (p + m) * 3, none⟩ = some (.int .i64 t.kind) := fun o => (World.cell?_of_block (w := w) (Below.heap_alloc w o g hg)).trans a0
      have r1 : ∀ o, (w.alloc o).cell? ⟨g, (p + m) * 3 + 1, none⟩ = some (.string t.text) := fun o => (World.cell?_of_block (w := w) (Below.heap_alloc w o g hg)).trans a1
      have r2 : ∀ o, (w.alloc o).cell? ⟨g, (p + m) * 3 + 2, none⟩ = some (.int .i64 t.pos) := fun o => (World.cell?_of_block (w := w) (Below.heap_alloc w o g hg)).trans a2
      have y1 : (0 : Int) ≤ (p : Int) + (m : Int) := by omega
      have y2 : (p : Int) + (m : Int) < (ts.length : Int) := by omega
      have y3 : IntKind.i64.wrap ((p : Int) + (m : Int)) = (p : Int) + (m : Int) := by rw [IntKind.wrap_i64]; omega
      clear a0 a1 a2 ht
      go_enter Try.func23, Try.ntmps23
      go_wp2_with fail
      go_quiet (fail)
      go_wp2_with fail
      go_region
      go_wp2
      exact HF.out t ((w.alloc _).drewN (nq + 1)) _ HP.out HB.out.1 ⟨HB.out.2.os, HB.out.2.tape, HB.out.2.output, HB.out.2.size, HB.out.2.block⟩ rfl

set_option maxRecDepth 100000 in
set_option maxHeartbeats 800000 in
theorem look_nil (n : Int) (w : World) : Calls Try.prog 44 #[.pointer none, .int .i64 n] w fun e w' => e = .returned (.agg #[.int .i64 4, .string ⟨#[]⟩, .int .i64 0]) ∧ Below w.heap.size w w' := by
  go_enter Try.func44, Try.ntmps44
  go_wp2
  exact bodyPost_ret (v := .agg #[.int .i64 4, .string ⟨#[]⟩, .int .i64 0]) (by simp [results, Try.results44, go_sem]) rfl ⟨rfl, (Below.refl _ w).alloc (Nat.le_refl _) _⟩

end Go.Proofs.Ytainjagbcbjnbaa
