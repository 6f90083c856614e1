/-
  The contract of the document's own Text.
-/
import Derived.Test.YthcncdihgghbjaaParts
namespace Go.Proofs.Ythcncdihgghbjaa
open Go Go.RowKit Go.Shelf

theorem ba_of {x : ByteArray} {l : List UInt8} (h : x.data.toList = l) : x = ⟨l.toArray⟩ := by
  subst h; cases x; rfl
theorem ba_app (x y : ByteArray) : (x ++ y).data.toList = x.data.toList ++ y.data.toList := by simp
theorem ba_size (x : ByteArray) : x.size = x.data.toList.length := by simp

set_option maxRecDepth 100000 in
set_option maxHeartbeats 1600000 in
theorem refText_calls (ns : List ByteArray) (na : Option Addr) (ncap : Nat) (t : Ty) : ∀ (ok : Nat → Prop) (sl : Value) (w : World), Holds w ok t.args sl → NamesAt w w.heap.size na ns → t.low ns.length = true → t.size ≤ 1000000 → (t.text ns).length ≤ 140737488355328 →
    Calls Try.prog 31 #[tv sl t.base, .slice na ns.length ncap] w fun e w' => e = .returned (.string ⟨(t.text ns).toArray⟩) ∧ Below w.heap.size w w' := by
  induction t using Ty.ind with
  | h t ih =>
  intro ok sl w hh hna hlow hsz htl
  obtain ⟨ts, hts⟩ : ∃ ts, t.args = ts := ⟨_, rfl⟩
  have hsz2 := t.size_eq
  have htx := t.text_eq ns
  rw [t.low_eq] at hlow
  rw [hts] at hh ih hsz2 htx hlow
  rw [lowL_all, Bool.and_eq_true, Bool.and_eq_true, decide_eq_true_iff, decide_eq_true_iff, List.all_eq_true] at hlow
  obtain ⟨⟨hb0, hb1⟩, hlo⟩ := hlow
  have HLO : Hid _ := hlo
  have HTX : Hid _ := htx
  rw [HTX.out, List.length_append] at htl
  clear hlo htx
  obtain ⟨a, cap, rfl, hcap, hat⟩ := hh.shape
  have HA : Hid _ := hat
  have hln := sizeL_length ts
  obtain ⟨B, hB⟩ : ∃ B, w.heap.size = B := ⟨_, rfl⟩
  rw [hB] at hna
  have HNA : Hid (NamesAt w B na ns) := hna
  clear hat hh hna
  rw [hB]
  go_enter Try.func31, Try.ntmps31
  go_wp2
  generalize hw0 : w.alloc (.cells #[.slice a ts.length cap, .int .i64 t.base] 24) = w0
  have b0 : Blk w0 B 24 #[.slice a ts.length cap, .int .i64 t.base] := by rw [← hw0]; exact Blk.new' w B 24 _ hB
  have bl0 : Below B w w0 := by rw [← hw0]; exact (Below.refl B w).alloc (by omega) _
  clear hw0
  go_loopw [5, 6] (fun s i wr => ∃ (k : Nat) (S : ByteArray), k ≤ ts.length ∧ i = .int .i64 k ∧ s = .string S ∧ Hid (S.data.toList = textL ns (ts.take k)) ∧ Blk wr B 24 #[.slice a ts.length cap, .int .i64 t.base] ∧ Below B w wr)
    (fun _ i _ => ts.length - (intOf i).toNat)
  case atStart => exact ⟨0, ⟨#[]⟩, Nat.zero_le _, rfl, rfl, by show _ = _; simp [textL], b0, bl0⟩
  case round =>
    clear b0 bl0
    obtain ⟨k, S, hk, rfl, rfl, HS, hb, hbl⟩ := hrel
    have r0 := hb.cell 0
    have hsS := ba_size S
    rw [HS.out] at hsS
    have hle0 := textL_take_le ns ts k
    by_cases hlt : k < ts.length
    · obtain ⟨u, hu⟩ : ∃ u, ts[k]? = some u := ⟨_, List.getElem?_eq_getElem hlt⟩
      obtain ⟨g, o, s, rfl, _, hg, a0, a1, hs⟩ := HA.out k u hu
      rw [hB] at hg
      have q0 := (cat hbl hg).trans a0
      have q1 := (cat hbl hg).trans a1
      have hm := List.mem_of_getElem? hu
      have hus := size_mem hm
      have HT : Hid (textL ns (ts.take (k + 1)) = textL ns (ts.take k) ++ pieceOf ns u) := textL_take ns hu
      have hle := textL_take_le ns ts (k + 1)
      rw [HT.out, List.length_append] at hle
      have y1 : (0 : Int) ≤ (k : Int) := by omega
      have y2 : (k : Int) < (ts.length : Int) := by omega
      have hul := HLO.out u hm
      have hs2 : Holds wr ok u.args s := hs.bel (by rw [hB]; exact hbl)
      obtain ⟨sa, sc, rfl, _⟩ := hs.shape
      have hna2 : NamesAt wr wr.heap.size na ns := fun i x hi => by
        obtain ⟨g1, o1, h1, h2, h3⟩ := HNA.out i x hi
        exact ⟨g1, o1, h1, by have := hbl.size; omega, (cat hbl h2).trans h3⟩
      obtain ⟨X, hX⟩ : ∃ X : ByteArray, (⟨(u.text ns).toArray⟩ : ByteArray) = X := ⟨_, rfl⟩
      have HX : Hid (X.data.toList = u.text ns) := by show _ = _; rw [← hX]
      have hsX := ba_size X
      rw [HX.out] at hsX
      by_cases he : u.args.length = 0
      · have hp : pieceOf ns u = u.text ns ++ [32, 45, 62, 32] := by unfold pieceOf; rw [if_pos he]
        rw [hp] at hle HT
        simp only [List.length_append, List.length_cons, List.length_nil] at hle
        have z1 : decide (0 < u.args.length) = false := decide_eq_false (by omega)
        have hcall := ih u hm ok _ wr hs2 hna2 hul (by omega) (by omega)
        rw [hX] at hcall
        have HR : Hid ((S ++ X ++ ⟨#[32, 45, 62, 32]⟩).data.toList = textL ns (ts.take (k + 1))) := by
          show _ = _
          rw [ba_app, ba_app, HS.out, HX.out, HT.out, List.append_assoc]
        clear hp he a0 a1 hu hX ih hna2
        go_wp2_with (go_at_call 31; refine hcall.mono ?_; rintro e w1 ⟨rfl, hb1⟩; have bb := hb.below hb1 hb.lt; have r1 := bb.cell 0; have q2 := (cat hb1 (lt_of_cell q0)).trans q0)
        exact ⟨⟨k + 1, _, by omega, by go_num, rfl, HR, bb, hbl.trans (hb1.mono (by have := hbl.size; omega))⟩, by simp [intOf]; omega⟩
      · have hp : pieceOf ns u = [40] ++ u.text ns ++ [41] ++ [32, 45, 62, 32] := by unfold pieceOf; rw [if_neg he]
        rw [hp] at hle HT
        simp only [List.length_append, List.length_cons, List.length_nil] at hle
        have z1 : decide (0 < u.args.length) = true := decide_eq_true (by omega)
        have hcall := ih u hm ok _ wr hs2 hna2 hul (by omega) (by omega)
        rw [hX] at hcall
        have HR : Hid ((S ++ (⟨#[40]⟩ ++ X ++ ⟨#[41]⟩) ++ ⟨#[32, 45, 62, 32]⟩).data.toList = textL ns (ts.take (k + 1))) := by
          show _ = _
          rw [ba_app, ba_app, ba_app, ba_app, HS.out, HX.out, HT.out]
          simp
        clear hp he a0 a1 hu hX ih hna2
        go_wp2_with (go_at_call 31; refine hcall.mono ?_; rintro e w1 ⟨rfl, hb1⟩; have bb := hb.below hb1 hb.lt; have r1 := bb.cell 0; have q2 := (cat hb1 (lt_of_cell q0)).trans q0)
        exact ⟨⟨k + 1, _, by omega, by go_num, rfl, HR, bb, hbl.trans (hb1.mono (by have := hbl.size; omega))⟩, by simp [intOf]; omega⟩
    · obtain rfl : k = ts.length := by omega
      rw [List.take_length] at HS hsS
      obtain ⟨bn, hbn⟩ : ∃ bn : Nat, t.base = (bn : Int) := ⟨t.base.toNat, by omega⟩
      obtain ⟨nm, hnm⟩ : ∃ nm, ns[bn]? = some nm := ⟨_, List.getElem?_eq_getElem (by omega)⟩
      have HN2 : Hid (nameOf ns t.base = nm.data.toList) := by
        show _ = _
        unfold nameOf
        rw [hbn, Int.toNat_natCast, List.getD_eq_getElem?_getD, hnm]
        rfl
      obtain ⟨g, o, rfl, hg, h3⟩ := HNA.out bn nm hnm
      have q0 := (cat hbl hg).trans h3
      have r1 := hb.cell 1
      rw [hbn] at r1
      have y1 : (0 : Int) ≤ (bn : Int) := by omega
      have y2 : (bn : Int) < (ns.length : Int) := by omega
      rw [HN2.out] at htl
      have hsz9 := ba_size nm
      have HR : Hid (S ++ nm = ⟨(t.text ns).toArray⟩) := ba_of (by rw [ba_app, HS.out, HTX.out, HN2.out])
      have h9 : S.size + nm.size ≤ 140737488355328 := by omega
      clear h3 hnm hsz9 hsS htl
      go_wp2
      go_ret
      exact ⟨by rw [← HR.out]; rfl, hbl⟩

end Go.Proofs.Ythcncdihgghbjaa
