/-
  The chapter's example ('known').
-/
import Derived.Test.YtdihplmlbfggjaaDoorKnow
namespace Go.Proofs.YtdihplmlbfggjaaDoor
open Go Go.RowKit Go.Maps

theorem holdsS_one (W : World) (N : Nat) (s : ByteArray) (h : Blk W N 9 #[.string s]) : HoldsS W okT [s] (.slice (some ⟨N, 0, none⟩) 1 1) :=
  ⟨some ⟨N, 0, none⟩, 1, rfl, Nat.le_refl _, (fun h => by cases h), fun i t hi => by
    have : i = 0 := by have := (List.getElem?_eq_some_iff.1 hi).1; simp at this; omega
    subst this
    obtain rfl : s = t := by simpa using hi
    exact ⟨N, 0, rfl, trivial, h.cell 0⟩⟩

set_option maxRecDepth 100000 in
set_option maxHeartbeats 3200000 in
theorem known_calls (w : World) : Calls Tryd.prog 11 #[] w fun e w' => e = .returned (.bool true) ∧ Below w.heap.size w w' := by
  obtain ⟨N, hN⟩ : ∃ N, w.heap.size = N := ⟨_, rfl⟩
  rw [hN]
  obtain ⟨W, hW⟩ : ∃ W, w.alloc (.cells #[.string ⟨#[110, 97, 116]⟩] 9) = W := ⟨_, rfl⟩
  have bW : Blk W N 9 #[.string sNat] := by rw [← hW]; exact Blk.new' _ N 9 _ hN
  have B0 : Below N w W := by rw [← hW]; exact (Below.refl _ _).alloc (by omega) _
  have lW := bW.lt
  go_enter Tryd.func11, Tryd.ntmps11
  go_wp2_with fail
  refine (kOf_calls 0 [] okT (.slice none 0 0) _ (Holds.nil _ _ _ _ (fun _ => rfl)) (by simp [sizeL])).mono ?_
  rintro e w1 ⟨v1, rfl, h1, hb1⟩
  obtain ⟨a1, c1, rfl, _⟩ := h1.shape
  have h1' := h1.t
  clear h1
  have b1 := bW.below hb1 bW.lt
  have B1 : Below N w w1 := B0.trans (hb1.mono (by omega))
  have l1 := b1.lt
  clear hb1 B0 bW
  have hh2 := holds_built w1 w1.heap.size rfl [(.slice a1 0 c1, tA)] 45 (fun p hp => by obtain rfl : p = (.slice a1 0 c1, tA) := by simpa using hp
                                                                                        exact h1') 1 rfl #[.slice a1 0 c1, .int .i64 0] rfl
  have b2 := b1.alloc (.cells #[.slice a1 0 c1, .int .i64 0] 45)
  have B2 : Below N w (w1.alloc (.cells #[.slice a1 0 c1, .int .i64 0] 45)) := B1.alloc (by omega) _
  have l2 : N < (w1.alloc (.cells #[.slice a1 0 c1, .int .i64 0] 45)).heap.size := b2.lt
  go_wp2_with fail
  refine (kOf_calls 0 [tA] okT _ _ hh2 (by decide +kernel)).mono ?_
  rintro e w2 ⟨v2, rfl, h2, hb2⟩
  obtain ⟨a2, c2, rfl, _⟩ := h2.shape
  have h2' := h2.t
  clear h2
  have b3 := b2.below hb2 b2.lt
  have B3 : Below N w w2 := B2.trans (hb2.mono (by omega))
  clear hb2 B2 b2 hh2 b1 B1 l2 h1'
  obtain ⟨X, hX⟩ : ∃ X, w2.heap.size = X := ⟨_, rfl⟩
  have lX : N < X := by rw [← hX]; exact b3.lt
  obtain ⟨W3, hW3⟩ : ∃ W3, w2.alloc (.cells #[.string ⟨#[122]⟩, .slice none 0 0, .int .i64 0, .string ⟨#[115]⟩, .slice a2 1 c2, .int .i64 0] 47) = W3 := ⟨_, rfl⟩
  have bX : Blk W3 X 47 #[.string sZ, .slice none 0 0, .int .i64 0, .string sS, .slice a2 1 c2, .int .i64 0] := by rw [← hW3]; exact Blk.new' _ X 47 _ hX
  have b4 : Blk W3 N 9 #[.string sNat] := by rw [← hW3]; exact b3.alloc _
  have h4 : Holds W3 okT [tA] (.slice a2 1 c2) := by rw [← hW3]; exact h2'.alloc _
  have B4 : Below N w W3 := by rw [← hW3]; exact B3.alloc (by omega) _
  have hC : HoldsC W3 okT csK (.slice (some ⟨X, 0, none⟩) 2 2) := ⟨some ⟨X, 0, none⟩, 2, rfl, Nat.le_refl _, (fun h => by cases h), fun i c hi => by
    have hl := (List.getElem?_eq_some_iff.1 hi).1
    have hl2 : i < 2 := hl
    obtain rfl | rfl : i = 0 ∨ i = 1 := by omega
    · obtain rfl : (⟨sZ, tA⟩ : Cn) = c := Option.some.inj hi
      exact ⟨X, 0, _, rfl, trivial, bX.cell 0, bX.cell 1, bX.cell 2, Holds.nil _ _ _ _ (fun _ => rfl)⟩
    · obtain rfl : (⟨sS, tAA⟩ : Cn) = c := Option.some.inj hi
      exact ⟨X, 0, _, rfl, trivial, bX.cell 3, bX.cell 4, bX.cell 5, h4⟩⟩
  have hNew := New_calls [sNat] csK okT _ _ W3 (holdsS_one W3 N sNat b4) hC fitN fitK (by decide +kernel)
  rw [chkK] at hNew
  have lW3 : N < W3.heap.size := b4.lt
  clear hC h4 b4 bX h2' b3 B3
  go_wp2_with fail
  refine hNew.mono ?_
  rintro e w4 ⟨p, rfl, _, hp, hb4⟩
  obtain ⟨B, rfl, hB, hI⟩ := hp trivial
  have B5 : Below N w w4 := B4.trans (hb4.mono (by omega))
  have hT := rightT chkK fitN fitK
  clear hp hb4 B4 hNew hW3 hX hW
  have hCo := Const_calls [sNat] csK hT sS (by decide +kernel) B w4 hI
  go_wp2_with fail
  refine hCo.mono ?_
  rintro e w5 ⟨c, er, rfl, hc, _, hI5, hO5⟩
  obtain ⟨rfl, rfl⟩ := hc 1 kS
  have B6 : Below N w w5 := B5.trans (hO5.below (by have := hI.lt; omega) (fun k hk => by simp at hk; omega))
  clear hCo hc hI B5 hO5
  have hFr := Fresh_calls [sNat] csK hT sZ (by decide +kernel) wZ 1 (by decide) (fun j hj => by obtain rfl : j = 0 := by omega
                                                                                                exact inZ0) inZ1 B w5 hI5
  rw [candZ] at hFr
  rw [if_neg (by decide +kernel)] at hFr
  go_wp2_with fail
  refine hFr.mono ?_
  rintro e w6 ⟨rfl, hI6, hO6⟩
  have B7 : Below N w w6 := B6.trans (hO6.below (by have := hI5.lt; omega) (fun k hk => by simp at hk; omega))
  clear hFr hO6 B6
  have l6 := B7.size
  obtain ⟨Y, hY⟩ : ∃ Y, w6.heap.size = Y := ⟨_, rfl⟩
  obtain ⟨W8, hW8⟩ : ∃ W8, (w6.alloc (.cells #[.string ⟨#[110, 97, 116]⟩] 9)).alloc (.cells #[.string ⟨#[110, 97, 116]⟩, .slice none 0 0, .int .i64 0] 47) = W8 := ⟨_, rfl⟩
  have c0 : Blk W8 Y 9 #[.string sNat] := by rw [← hW8]; exact (Blk.new' _ Y 9 _ hY).alloc _
  have c1 : Blk W8 (Y + 1) 47 #[.string sNat, .slice none 0 0, .int .i64 0] := by rw [← hW8]; exact Blk.new' _ (Y + 1) 47 _ (by simp [hY])
  have B8 : Below N w W8 := by rw [← hW8]; exact (B7.alloc (by omega) _).alloc (by simp; omega) _
  have hC8 : HoldsC W8 okT [⟨sNat, tA⟩] (.slice (some ⟨Y + 1, 0, none⟩) 1 1) := ⟨some ⟨Y + 1, 0, none⟩, 1, rfl, Nat.le_refl _, (fun h => by cases h), fun i c hi => by
    have hl := (List.getElem?_eq_some_iff.1 hi).1
    have hl2 : i < 1 := hl
    obtain rfl : i = 0 := by omega
    obtain rfl : (⟨sNat, tA⟩ : Cn) = c := Option.some.inj hi
    exact ⟨Y + 1, 0, _, rfl, trivial, c1.cell 0, c1.cell 1, c1.cell 2, Holds.nil _ _ _ _ (fun _ => rfl)⟩⟩
  have hCk := Check_calls [sNat] [⟨sNat, tA⟩] okT _ _ W8 (holdsS_one W8 Y sNat c0) hC8 fitN fitN2 (by decide +kernel)
  rw [chkN] at hCk
  have l8 := B8.size
  clear c0 c1 hC8
  go_wp2_with fail
  refine hCk.mono ?_
  rintro e w9 ⟨rfl, hb9⟩
  have B9 : Below N w w9 := B8.trans (hb9.mono (by omega))
  clear hb9 hCk hW8 hY
  go_wp2
  go_ret
  exact ⟨rfl, B9⟩

end Go.Proofs.YtdihplmlbfggjaaDoor
