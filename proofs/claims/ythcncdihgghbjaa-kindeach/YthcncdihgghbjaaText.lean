/-
  The contracts of kind.write and kind.Text: a type as a text.
-/
import Derived.Test.YthcncdihgghbjaaBuild
namespace Go.Proofs.Ythcncdihgghbjaa
open Go Go.RowKit Go.Shelf

/-- A base's name. -/
def nameOf (ns : List ByteArray) (b : Int) : List UInt8 := (ns.getD b.toNat ⟨#[]⟩).data.toList
mutual
def Ty.text (ns : List ByteArray) : Ty → List UInt8
  | .mk l b => textL ns l ++ nameOf ns b
def textL (ns : List ByteArray) : List Ty → List UInt8
  | [] => []
  | t :: r => (if t.args.length = 0 then t.text ns else [40] ++ t.text ns ++ [41]) ++ [32, 45, 62, 32] ++ textL ns r
end
theorem Ty.text_eq (ns : List ByteArray) (t : Ty) : t.text ns = textL ns t.args ++ nameOf ns t.base := by cases t; rfl
def pieceOf (ns : List ByteArray) (t : Ty) : List UInt8 := (if t.args.length = 0 then t.text ns else [40] ++ t.text ns ++ [41]) ++ [32, 45, 62, 32]
theorem textL_append (ns : List ByteArray) (a b : List Ty) : textL ns (a ++ b) = textL ns a ++ textL ns b := by
  induction a with
  | nil => simp [textL]
  | cons t a ih => simp [textL, ih]
theorem textL_take (ns : List ByteArray) {ts : List Ty} {k : Nat} {u : Ty} (h : ts[k]? = some u) : textL ns (ts.take (k + 1)) = textL ns (ts.take k) ++ pieceOf ns u := by
  rw [List.take_add_one, h, textL_append]; simp [textL, pieceOf]
theorem textL_take_le (ns : List ByteArray) (ts : List Ty) (k : Nat) : (textL ns (ts.take k)).length ≤ (textL ns ts).length := by
  conv => rhs; rw [← List.take_append_drop k ts, textL_append]
  simp

theorem byteCells_append (a b : List UInt8) : Lib.byteCells (a ++ b) = Lib.byteCells a ++ Lib.byteCells b := by simp [Lib.byteCells]
theorem strCells_bytes (s : ByteArray) : Lib.strCells s = Lib.byteCells s.data.toList := by
  simp [Lib.strCells, Lib.byteCells]
theorem byteCells_len (l : List UInt8) : (Lib.byteCells l).length = l.length := by simp [Lib.byteCells]
theorem isB_alloc {B b : Nat} {bs : List Value} {w : World} (h : Lib.IsBuilder 72 5 B b bs w) (o : Obj) : Lib.IsBuilder 72 5 B b bs (w.alloc o) := by
  rcases h with ⟨h1, v, h2, h3, h4⟩ | ⟨h1, v, h2, h3, h4⟩
  · exact .inl ⟨h1, v, Blk.alloc h2 o, h3.alloc o, h4⟩
  · exact .inr ⟨h1, v, Blk.alloc h2 o, h3.alloc o, h4⟩
theorem isB_new (w : World) (N : Nat) (h : w.heap.size = N) : Lib.IsBuilder 72 5 N N [] (w.alloc (.cells #[.pointer none, .slice none 0 0] 72)) :=
  .inl ⟨Nat.le_refl _, .slice none 0 0, Blk.new' w N 72 _ h, World.ownsRow_nil _ _ _ _, by simp [Value.ownBlock]⟩

/-- What a write leaves: the builder, one text longer. -/
structure Wrote (B bb : Nat) (l : List UInt8) (w w' : World) : Prop where
  is : Lib.IsBuilder 72 5 B bb (Lib.byteCells l) w'
  bel : Below B w w'
  boxes : K29 w w'
theorem Wrote.then {B bb : Nat} {l l' : List UInt8} {a b c : World} (h : Wrote B bb l a b) (k : Wrote B bb l' b c) : Wrote B bb l' a c := ⟨k.is, h.bel.trans k.bel, fun j vs hj => k.boxes j vs (h.boxes j vs hj)⟩
theorem Wrote.alloc {B bb : Nat} {l : List UInt8} {a b : World} (h : Wrote B bb l a b) (hB : B ≤ b.heap.size) (o : Obj) : Wrote B bb l a (b.alloc o) := ⟨isB_alloc h.is o, h.bel.alloc hB o, fun j vs hj => (h.boxes j vs hj).alloc o⟩

theorem W40 (B bb : Nat) (l : List UInt8) (w : World) (h : Lib.IsBuilder 72 5 B bb (Lib.byteCells l) w) (hl : l.length + 1 ≤ 140737488355328) (hB : B ≤ w.heap.size) :
    Calls Try.prog 55 #[.pointer (some ⟨bb, 0, none⟩), .int .u8 40] w fun e w' => e = .returned .nilIface ∧ Wrote B bb (l ++ [40]) w w' := by
  refine (WriteByte_calls B bb _ 40 w h (by rw [byteCells_len]; exact hl) hB).mono ?_
  rintro e w' ⟨rfl, h1, h2, h3⟩
  exact ⟨rfl, .inr (by rw [byteCells_append]; exact h1), h2, h3⟩
theorem W41 (B bb : Nat) (l : List UInt8) (w : World) (h : Lib.IsBuilder 72 5 B bb (Lib.byteCells l) w) (hl : l.length + 1 ≤ 140737488355328) (hB : B ≤ w.heap.size) :
    Calls Try.prog 55 #[.pointer (some ⟨bb, 0, none⟩), .int .u8 41] w fun e w' => e = .returned .nilIface ∧ Wrote B bb (l ++ [41]) w w' := by
  refine (WriteByte_calls B bb _ 41 w h (by rw [byteCells_len]; exact hl) hB).mono ?_
  rintro e w' ⟨rfl, h1, h2, h3⟩
  exact ⟨rfl, .inr (by rw [byteCells_append]; exact h1), h2, h3⟩
theorem WS (B bb : Nat) (l : List UInt8) (s : ByteArray) (w : World) (h : Lib.IsBuilder 72 5 B bb (Lib.byteCells l) w) (hl : l.length + s.size ≤ 140737488355328) (hB : B ≤ w.heap.size) :
    Calls Try.prog 56 #[.pointer (some ⟨bb, 0, none⟩), .string s] w fun e w' => e = .returned (.tuple #[.int .i64 s.size, .nilIface]) ∧ Wrote B bb (l ++ s.data.toList) w w' := by
  refine (WriteString_calls B bb _ s w h (by rw [byteCells_len]; exact hl) hB).mono ?_
  rintro e w' ⟨rfl, h1, h2, h3⟩
  exact ⟨rfl, .inr (by rw [byteCells_append, ← strCells_bytes]; exact h1), h2, h3⟩

/-- The names lie in memory below B. -/
def NamesAt (w : World) (B : Nat) (na : Option Addr) (ns : List ByteArray) : Prop := ∀ i s, ns[i]? = some s → ∃ g o, na = some ⟨g, o, none⟩ ∧ g < B ∧ w.cell? ⟨g, o + i, none⟩ = some (.string s)
theorem NamesAt.bel {w w' : World} {B : Nat} {na : Option Addr} {ns : List ByteArray} (h : NamesAt w B na ns) (hb : Below B w w') : NamesAt w' B na ns := fun i s hi => by
  obtain ⟨g, o, h1, h2, h3⟩ := h i s hi
  exact ⟨g, o, h1, h2, (cat hb h2).trans h3⟩

set_option maxRecDepth 100000 in
set_option maxHeartbeats 1600000 in
theorem write_calls (ns : List ByteArray) (na : Option Addr) (ncap B bb : Nat) (t : Ty) : ∀ (l0 : List UInt8) (sl : Value) (w : World), Holds w (fun b => b < B) t.args sl → NamesAt w B na ns → t.low ns.length = true → t.size ≤ 1000000 →
    Lib.IsBuilder 72 5 B bb (Lib.byteCells l0) w → l0.length + (t.text ns).length ≤ 140737488355328 → B ≤ w.heap.size →
    Calls Try.prog 43 #[.pointer (some ⟨bb, 0, none⟩), tv sl t.base, .slice na ns.length ncap] w fun e w' => e = .returned (.tuple #[]) ∧ Wrote B bb (l0 ++ t.text ns) w w' := by
  induction t using Ty.ind with
  | h t ih =>
  intro l0 sl w hh hna hlow hsz hbd htl hBw
  obtain ⟨ts, hts⟩ : ∃ ts, t.args = ts := ⟨_, rfl⟩
  have hsz2 := t.size_eq
  have htx := t.text_eq ns
  rw [t.low_eq] at hlow
  rw [hts] at hh ih hsz2 htx hlow
  rw [lowL_all, Bool.and_eq_true, Bool.and_eq_true, decide_eq_true_iff, decide_eq_true_iff, List.all_eq_true] at hlow
  obtain ⟨⟨hb0, hb1⟩, hlo⟩ := hlow
  have HLO : Hid _ := hlo
  have HTX : Hid _ := htx
  rw [HTX.out, List.length_append] at htl
  clear hlo htx
  obtain ⟨a, cap, rfl, hcap, hat⟩ := hh.shape
  have HA : Hid _ := hat
  have HNA : Hid (NamesAt w B na ns) := hna
  clear hat hh hna
  have hln := sizeL_length ts
  obtain ⟨M, hM⟩ : ∃ M, w.heap.size = M := ⟨_, rfl⟩
  rw [hM] at hBw
  go_enter Try.func43, Try.ntmps43
  go_wp2
  generalize hw0 : w.alloc (.cells #[.slice a ts.length cap, .int .i64 t.base] 29) = w0
  have b0 : Blk w0 M 29 #[.slice a ts.length cap, .int .i64 t.base] := by rw [← hw0]; exact Blk.new' w M 29 _ hM
  have wr0 : Wrote B bb l0 w w0 := by rw [← hw0]; exact ⟨isB_alloc hbd _, (Below.refl B w).alloc (by omega) _, fun j vs hj => hj.alloc _⟩
  clear hw0
  go_loopw [11] (fun i wr => ∃ k : Nat, k ≤ ts.length ∧ i = .int .i64 k ∧ Wrote B bb (l0 ++ textL ns (ts.take k)) w wr ∧ Blk wr M 29 #[.slice a ts.length cap, .int .i64 t.base])
    (fun i _ => ts.length - (intOf i).toNat)
  case atStart => exact ⟨0, Nat.zero_le _, rfl, by simpa [textL] using wr0, b0⟩
  case round =>
    clear b0 wr0
    obtain ⟨k, hk, rfl, hwr, hb⟩ := hrel
    have hMw := hb.lt
    by_cases hlt : k < ts.length
    · obtain ⟨u, hu⟩ : ∃ u, ts[k]? = some u := ⟨_, List.getElem?_eq_getElem hlt⟩
      obtain ⟨g, o, s, rfl, hg, _, a0, a1, hs⟩ := HA.out k u hu
      have q0 := (cat hwr.bel hg).trans a0
      have q1 := (cat hwr.bel hg).trans a1
      have hm := List.mem_of_getElem? hu
      have hus := size_mem hm
      have HT : Hid (textL ns (ts.take (k + 1)) = textL ns (ts.take k) ++ pieceOf ns u) := textL_take ns hu
      have hle := textL_take_le ns ts (k + 1)
      rw [HT.out, List.length_append] at hle
      have y1 : (0 : Int) ≤ (k : Int) := by omega
      have y2 : (k : Int) < (ts.length : Int) := by omega
      have hul := HLO.out u hm
      obtain ⟨sa, sc, rfl, _⟩ := hs.shape
      obtain ⟨X, hX⟩ : ∃ X, wr.heap.size = X := ⟨_, rfl⟩
      rw [hX] at hMw
      clear a0 a1 hu
      obtain ⟨lk, hlk⟩ : ∃ lk, textL ns (ts.take k) = lk := ⟨_, rfl⟩
      rw [hlk] at hwr hle HT
      clear hlk
      have hxb : ∀ V : World, wr.alloc (.cells #[.slice sa u.args.length sc, .int .i64 u.base] 29) = V → Wrote B bb (l0 ++ lk) w V ∧ Blk V M 29 #[.slice (some ⟨g, o, none⟩) ts.length cap, .int .i64 t.base] ∧ Blk V X 29 #[.slice sa u.args.length sc, .int .i64 u.base] ∧ B ≤ V.heap.size := fun V hV => by
        subst hV
        exact ⟨hwr.alloc (by omega) _, hb.alloc _, Blk.new' wr X 29 _ hX, by simp; omega⟩
      by_cases he : u.args.length = 0
      · have hp : pieceOf ns u = u.text ns ++ [32, 45, 62, 32] := by unfold pieceOf; rw [if_pos he]
        rw [hp] at hle HT
        simp only [List.length_append, List.length_cons, List.length_nil] at hle
        have z1 : decide (0 < u.args.length) = false := decide_eq_false (by omega)
        have HE : Hid (u.args.length = 0) := he
        clear hp he
        go_wp2_with fail
        generalize hV : wr.alloc (.cells #[.slice sa u.args.length sc, .int .i64 u.base] 29) = V
        obtain ⟨k1, k2, k3, k4⟩ := hxb V hV
        clear hV hxb hX hwr hb
        refine (ih u hm _ _ _ (hs.belN (fun _ h => h) k1.bel) (HNA.out.bel k1.bel) hul (by omega) k1.is (by simp only [List.length_append]; omega) k4).mono ?_
        rintro e w2 ⟨rfl, k5⟩
        have m1 := k5.boxes _ _ k2
        have m4 := Nat.le_trans k4 k5.bel.size
        clear k2 k3 k4
        have k6 := k1.then k5
        clear k1 k5
        go_wp2_with fail
        refine (WS B bb _ ⟨#[32, 45, 62, 32]⟩ _ k6.is (by have h4 : (⟨#[32, 45, 62, 32]⟩ : ByteArray).size = 4 := rfl; simp only [List.length_append]; omega) m4).mono ?_
        rintro e w3 ⟨rfl, k7⟩
        have n1 := k7.boxes _ _ m1
        have k8 := k6.then k7
        clear k6 k7
        go_wp2
        refine ⟨⟨k + 1, by omega, by go_num, ?_, n1⟩, by simp [intOf]; omega⟩
        rw [HT.out]
        simpa using k8
      · have hp : pieceOf ns u = [40] ++ u.text ns ++ [41] ++ [32, 45, 62, 32] := by unfold pieceOf; rw [if_neg he]
        rw [hp] at hle HT
        simp only [List.length_append, List.length_cons, List.length_nil] at hle
        have z1 : decide (0 < u.args.length) = true := decide_eq_true (by omega)
        clear hp he
        go_wp2_with fail
        generalize hV : wr.alloc (.cells #[.slice sa u.args.length sc, .int .i64 u.base] 29) = V
        obtain ⟨k1, k2, k3, k4⟩ := hxb V hV
        clear hV hxb hX hwr hb
        refine (W40 B bb _ _ k1.is (by simp only [List.length_append]; omega) k4).mono ?_
        rintro e w1 ⟨rfl, k5⟩
        have m1 := k5.boxes _ _ k2
        have m3 := k5.boxes _ _ k3
        have m4 := Nat.le_trans k4 k5.bel.size
        have c0 := m3.cell 0
        have c1 := m3.cell 1
        clear k2 k3 k4
        have k6 := k1.then k5
        clear k1 k5
        go_wp2_with fail
        refine (ih u hm _ _ _ (hs.belN (fun _ h => h) k6.bel) (HNA.out.bel k6.bel) hul (by omega) k6.is (by simp only [List.length_append, List.length_cons, List.length_nil]; omega) m4).mono ?_
        rintro e w2 ⟨rfl, k5⟩
        have n1 := k5.boxes _ _ m1
        have n4 := Nat.le_trans m4 k5.bel.size
        clear m1 m3 m4 c0 c1
        have k7 := k6.then k5
        clear k6 k5
        go_wp2_with fail
        refine (W41 B bb _ _ k7.is (by simp only [List.length_append, List.length_cons, List.length_nil]; omega) n4).mono ?_
        rintro e w3 ⟨rfl, k5⟩
        have m1 := k5.boxes _ _ n1
        have m4 := Nat.le_trans n4 k5.bel.size
        clear n1 n4
        have k8 := k7.then k5
        clear k7 k5
        go_wp2_with fail
        refine (WS B bb _ ⟨#[32, 45, 62, 32]⟩ _ k8.is (by have h4 : (⟨#[32, 45, 62, 32]⟩ : ByteArray).size = 4 := rfl; simp only [List.length_append, List.length_cons, List.length_nil]; omega) m4).mono ?_
        rintro e w4 ⟨rfl, k5⟩
        have n1 := k5.boxes _ _ m1
        have k9 := k8.then k5
        clear k8 k5
        go_wp2
        refine ⟨⟨k + 1, by omega, by go_num, ?_, n1⟩, by simp [intOf]; omega⟩
        rw [HT.out]
        simpa using k9
    · obtain rfl : k = ts.length := by omega
      rw [List.take_length] at hwr
      obtain ⟨bn, hbn⟩ : ∃ bn : Nat, t.base = (bn : Int) := ⟨t.base.toNat, by omega⟩
      obtain ⟨nm, hnm⟩ : ∃ nm, ns[bn]? = some nm := ⟨_, List.getElem?_eq_getElem (by omega)⟩
      have HN2 : Hid (nameOf ns t.base = nm.data.toList) := by
        show _ = _
        unfold nameOf
        rw [hbn, Int.toNat_natCast, List.getD_eq_getElem?_getD, hnm]
        rfl
      obtain ⟨g, o, rfl, hg, h3⟩ := HNA.out bn nm hnm
      have q0 := (cat hwr.bel hg).trans h3
      have r1 := hb.cell 1
      rw [hbn] at r1
      have y1 : (0 : Int) ≤ (bn : Int) := by omega
      have y2 : (bn : Int) < (ns.length : Int) := by omega
      rw [HN2.out] at htl
      have hsz9 : nm.data.toList.length = nm.size := by simp
      clear h3 hnm
      go_wp2_with fail
      refine (WS B bb _ nm _ hwr.is (by simp only [List.length_append]; omega) (by omega)).mono ?_
      rintro e w4 ⟨rfl, k5⟩
      go_wp2
      go_end0
      refine ⟨rfl, ?_⟩
      rw [HTX.out, HN2.out, ← List.append_assoc]
      exact hwr.then k5

/-- What Text tells. -/
def textOf (ns : List ByteArray) (t : Ty) : Value := if rightB ns.length t = true then .tuple #[.string ⟨(t.text ns).toArray⟩, .int .i64 0] else .tuple #[.string ⟨#[]⟩, .int .i64 1]

set_option maxRecDepth 100000 in
set_option maxHeartbeats 1600000 in
theorem Text_calls (ns : List ByteArray) (na : Option Addr) (ncap : Nat) (t : Ty) (ok : Nat → Prop) (sl : Value) (w : World) (hh : Holds w ok t.args sl) (hna : NamesAt w w.heap.size na ns) (hsz : t.size ≤ 900000) (htl : rightB ns.length t = true → (t.text ns).length ≤ 140737488355328) :
    Calls Try.prog 30 #[tv sl t.base, .slice na ns.length ncap] w fun e w' => e = .returned (textOf ns t) ∧ Below w.heap.size w w' := by
  obtain ⟨N, hN⟩ : ∃ N, w.heap.size = N := ⟨_, rfl⟩
  have hh0 : Holds w (fun b => b < N) t.args sl := hh.mono fun b hb _ => by omega
  rw [hN] at hna ⊢
  obtain ⟨a, cap, hsl, _⟩ := hh.shape
  generalize t.args.length = tn at hsl
  subst hsl
  have HT : Hid (textOf ns t = if rightB ns.length t = true then .tuple #[.string ⟨(t.text ns).toArray⟩, .int .i64 0] else .tuple #[.string ⟨#[]⟩, .int .i64 1]) := rfl
  have HLo : Hid (rightB ns.length t = true → t.low ns.length = true) := fun h => by
    unfold rightB at h
    rw [Bool.and_eq_true] at h
    exact h.2
  have hcall := fun W (hW : Holds W ok t.args (.slice a tn cap)) => kRight_calls (ns.length : Int) t ok (.slice a tn cap) W hW hsz
  have HTL : Hid _ := htl
  obtain ⟨r, hr⟩ : ∃ r, rightB ns.length t = r := ⟨_, rfl⟩
  rw [hr] at hcall HT HLo HTL
  clear hr htl
  go_enter Try.func30, Try.ntmps30
  go_wp2_with fail
  generalize hw0 : w.alloc (.cells #[.slice a tn cap, .int .i64 t.base] 29) = w0
  have b0 : Blk w0 N 29 #[.slice a tn cap, .int .i64 t.base] := by rw [← hw0]; exact Blk.new' w N 29 _ hN
  have bl0 : Below N w w0 := by rw [← hw0]; exact (Below.refl N w).alloc (by omega) _
  have hh1 : Holds w0 ok t.args (.slice a tn cap) := hh.bel (by rw [hN]; exact bl0)
  clear hw0
  refine (hcall _ hh1).mono ?_
  rintro e w1 ⟨rfl, hb1⟩
  have bl1 : Below N w w1 := bl0.trans (hb1.mono (by have := bl0.size; omega))
  have b1 := b0.below hb1 b0.lt
  have c0 := b1.cell 0
  have c1 := b1.cell 1
  clear hcall hb1 b0 bl0 hh1
  cases r
  · go_wp2
    go_ret2
    exact ⟨by rw [HT.out]; rfl, bl1⟩
  · obtain ⟨M, hM⟩ : ∃ M, w1.heap.size = M := ⟨_, rfl⟩
    have hNM : N < M := by rw [← hM]; exact b1.lt
    go_wp2_with fail
    generalize hw2 : w1.alloc (.cells #[.pointer none, .slice none 0 0] 72) = w2
    have hbd : Lib.IsBuilder 72 5 M M [] w2 := by rw [← hw2]; exact isB_new w1 M hM
    have hB2 : Below N w w2 := by rw [← hw2]; exact bl1.alloc (by omega) _
    have hM2 : M ≤ w2.heap.size := by rw [← hw2]; simp; omega
    clear hw2
    refine (write_calls ns na ncap M M t [] _ _ ((hh0.belN (fun _ h => h) hB2).mono fun b _ h => by omega) (fun i s hi => ?_) (HLo.out trivial) (by omega) hbd (by simpa using HTL.out trivial) hM2).mono ?_
    · obtain ⟨g, o, h1, h2, h3⟩ := hna i s hi
      exact ⟨g, o, h1, by omega, (cat hB2 h2).trans h3⟩
    · rintro e w3 ⟨rfl, k3⟩
      have hB3 : Below N w w3 := hB2.trans (k3.bel.mono (by omega))
      have hM3 := Nat.le_trans hM2 k3.bel.size
      go_wp2_with fail
      refine (Try.Builder_String_any M M _ _ k3.is hM3).mono ?_
      rintro e w4 ⟨rfl, hb4⟩
      go_wp2
      go_ret2
      exact ⟨by rw [HT.out]; rfl, hB3.trans (hb4.mono (by omega))⟩

end Go.Proofs.Ythcncdihgghbjaa
