/-
  KindTexts comes out true, where the names are no longer than a bound: the walk.
-/
import Derived.Test.YthcncdihgghbjaaRefText
namespace Go.Proofs.Ythcncdihgghbjaa
open Go Go.RowKit Go.Shelf

theorem nameOf_le (ns : List ByteArray) (L : Nat) (h : ∀ s ∈ ns, s.size ≤ L) (b : Int) : (nameOf ns b).length ≤ L := by
  unfold nameOf
  rw [List.getD_eq_getElem?_getD]
  cases hg : ns[b.toNat]? with
  | none => simp
  | some s =>
    have := h s (List.mem_of_getElem? hg)
    simp at *
    exact this
theorem textL_le (ns : List ByteArray) (L : Nat) (l : List Ty) (h : ∀ t ∈ l, (t.text ns).length + 6 ≤ t.size * (L + 6)) : (textL ns l).length ≤ sizeL l * (L + 6) := by
  induction l with
  | nil => simp [textL, sizeL]
  | cons t r ih =>
    have h1 := h t (by simp)
    have h2 := ih (fun u hu => h u (by simp [hu]))
    have e : (textL ns (t :: r)).length ≤ (t.text ns).length + 6 + (textL ns r).length := by
      simp only [textL]
      split <;> simp <;> omega
    rw [sizeL, Nat.add_mul]
    omega
theorem text_le (ns : List ByteArray) (L : Nat) (hL : ∀ s ∈ ns, s.size ≤ L) (t : Ty) : (t.text ns).length + 6 ≤ t.size * (L + 6) := by
  induction t using Ty.ind with
  | h t ih =>
    have h1 := textL_le ns L t.args ih
    have h2 := nameOf_le ns L hL t.base
    rw [t.text_eq, t.size_eq, List.length_append, Nat.add_mul]
    omega

set_option maxRecDepth 100000 in
set_option maxHeartbeats 3200000 in
theorem texts_at (t : Ty) (sl : Value) (ns : List ByteArray) (na : Option Addr) (n m ncap : Nat) (w : World) (hh : Holds w okT t.args sl) (hna : NamesAt w w.heap.size na ns) (hm : ns.length = m) (hmin : m = min n 20) (hnc : n ≤ ncap) (hn63 : ncap ≤ 9223372036854775807) (hL : ∀ s ∈ ns, s.size ≤ 1048576) :
    Calls Try.prog 6 #[tv sl t.base, .slice na n ncap] w fun e w' => e = .returned (.bool true) ∧ Below w.heap.size w w' := by
  obtain ⟨a, cap, hsl, _⟩ := hh.shape
  generalize t.args.length = tn at hsl
  subst hsl
  have HM : Hid (ns.length = m) := hm
  clear hm
  obtain ⟨N, hN⟩ : ∃ N, w.heap.size = N := ⟨_, rfl⟩
  rw [hN] at hna ⊢
  obtain ⟨r, hr⟩ : ∃ r, fewB 100 70 t = r := ⟨_, rfl⟩
  have hfew := fun W s (hW : Holds W okT [t] s) => lawFew_calls [t] okT s W (by simp) hW
  rw [show [t].all (fewB 100 70) = r by rw [← hr]; simp] at hfew
  have HR : Hid (fewB 100 70 t = r) := hr
  clear hr
  have HRS : Hid (r = true → t.size ≤ 100) := fun e => (size_of_few (by rw [HR.out, e])).1
  clear HR
  have hmi : (min (n : Int) 20).toNat = m := by omega
  have y2 : min (n : Int) 20 ≤ (ncap : Int) := by omega
  have y3 : (0 : Int) ≤ min (n : Int) 20 := by omega
  have hnc2 : n ≤ 9223372036854775807 := by omega
  clear hmin
  have HNA : Hid (NamesAt w N na ns) := hna
  have HL : Hid (∀ s ∈ ns, s.size ≤ 1048576) := hL
  clear hna hL
  go_enter Try.func6, Try.ntmps6
  go_wp2_with fail
  clear y2 y3 hmi
  generalize hw1 : w.alloc (.cells #[.slice a tn cap, .int .i64 t.base] 24) = w1
  have b1 : Blk w1 N 24 #[.slice a tn cap, .int .i64 t.base] := by rw [← hw1]; exact Blk.new' w N 24 _ hN
  have bl1 : Below N w w1 := by rw [← hw1]; exact (Below.refl N w).alloc (by omega) _
  have hh1 : Holds w1 okT t.args (.slice a tn cap) := hh.bel (by rw [hN]; exact bl1)
  have hz1 : w1.heap.size = N + 1 := by rw [← hw1]; simp [hN]
  clear hw1
  generalize hw2 : w1.alloc (.cells #[.slice a tn cap, .int .i64 t.base] 24) = w2
  have b2 : Blk w2 N 24 #[.slice a tn cap, .int .i64 t.base] := by rw [← hw2]; exact b1.alloc _
  have bl2 : Below N w w2 := by rw [← hw2]; exact bl1.alloc (by omega) _
  have hh2 : Holds w2 okT t.args (.slice a tn cap) := by rw [← hw2]; exact hh1.alloc _
  have hf2 : Holds w2 okT [t] (.slice (some ⟨N + 1, 0, none⟩) 1 1) := by
    rw [← hw2]
    exact holds_built w1 (N + 1) hz1 [(.slice a tn cap, t)] 24 (fun p hp => by rw [List.mem_singleton.1 hp]; exact hh1) 1 rfl _ rfl
  clear hw2 b1 bl1 hh1 hz1
  refine (hfew _ _ hf2).mono ?_
  rintro e w3 ⟨rfl, hb3⟩
  have hz2 : N ≤ w2.heap.size := by have := bl2.size; omega
  have b3 := b2.below hb3 b2.lt
  have bl3 : Below N w w3 := bl2.trans (hb3.mono hz2)
  have hh3 := hh2.bel hb3
  have hz3 : N ≤ w3.heap.size := Nat.le_trans hz2 hb3.size
  clear b2 bl2 hh2 hf2 hb3 hz2 hfew
  have c0 := b3.cell 0
  have c1 := b3.cell 1
  cases r
  · go_wp2_with fail
    refine (known_calls _).mono ?_
    rintro e w4 ⟨rfl, hb4⟩
    go_wp2
    go_ret
    exact ⟨rfl, bl3.trans (hb4.mono hz3)⟩
  · have hs1 : t.size ≤ 100 := HRS.out rfl
    have htx := text_le ns 1048576 HL.out t
    have htl : (t.text ns).length ≤ 140737488355328 := by
      have : t.size * (1048576 + 6) ≤ 100 * (1048576 + 6) := Nat.mul_le_mul_right _ hs1
      omega
    clear htx
    have hnaAt : Hid (∀ W : World, Below N w W → NamesAt W W.heap.size na ns) := fun W hW i x hi => by
      obtain ⟨g1, o1, h1, h2, h3⟩ := HNA.out i x hi
      exact ⟨g1, o1, h1, by have := hW.size; omega, (cat hW h2).trans h3⟩
    go_wp2_with fail
    refine (To_calls t okT _ _ hh3 (by omega)).mono ?_
    rintro e w4 ⟨v4, rfl, h4, hb4⟩
    obtain ⟨a4, cap4, hv4, _⟩ := h4.shape
    have h4' := h4.t
    generalize t.args.length = tn4 at hv4
    subst hv4
    have b4 := b3.below hb4 b3.lt
    have bl4 : Below N w w4 := bl3.trans (hb4.mono hz3)
    have hh4 := hh3.bel hb4
    have hz4 : N ≤ w4.heap.size := Nat.le_trans hz3 hb4.size
    clear b3 bl3 hh3 hb4 hz3 h4 c0 c1
    have hT := Text_calls ns na ncap t okT _ w4 h4' (hnaAt.out w4 bl4) (by omega) (fun _ => htl)
    rw [HM.out] at hT
    have hRR := fun (cur : World) (hc : Cur w4 cur) => Calls.cur hc (refRight_calls (m : Int) t okT _ cur (hc.holds hh4) (by omega))
    have hKn := fun (cur : World) (hc : Cur w4 cur) => Calls.cur hc (known_calls cur)
    have HT2 : Hid (textOf ns t = if rightB m t = true then .tuple #[.string ⟨(t.text ns).toArray⟩, .int .i64 0] else .tuple #[.string ⟨#[]⟩, .int .i64 1]) := by show _ = _; unfold textOf; rw [HM.out]
    have HLo : Hid (rightB m t = true → t.low ns.length = true) := fun h => by
      unfold rightB at h
      rw [Bool.and_eq_true] at h
      rw [HM.out]
      exact h.2
    obtain ⟨q, hq⟩ : ∃ q, rightB (m : Int) t = q := ⟨_, rfl⟩
    rw [hq] at HT2 hRR HLo
    clear hq
    go_wp2_with fail
    refine hT.mono ?_
    rintro e w5 ⟨rfl, hb5⟩
    rw [HT2.out]
    have hc5 : Cur w4 w5 := hb5
    have d0 := hc5.cell (b4.cell 0)
    have d1 := hc5.cell (b4.cell 1)
    clear hT hb5
    cases q
    · simp only [Bool.false_eq_true, if_false]
      go_wp2_with fail
      refine (hRR _ hc5).mono ?_
      rintro e w6 ⟨rfl, hc6⟩
      go_wp2_with fail
      refine (hKn _ hc6).mono ?_
      rintro e w7 ⟨rfl, hc7⟩
      go_wp2
      go_ret
      exact ⟨rfl, bl4.trans (Below.mono hc7 hz4)⟩
    · simp only [if_true]
      have hlow := HLo.out rfl
      obtain ⟨X, hX⟩ : ∃ X : ByteArray, (⟨(t.text ns).toArray⟩ : ByteArray) = X := ⟨_, rfl⟩
      have hRT := fun (cur : World) (hc : Cur w4 cur) => Calls.cur hc (refText_calls ns na ncap t okT _ cur (hc.holds hh4) (hnaAt.out cur (bl4.trans (Below.mono hc hz4))) hlow (by omega) htl)
      rw [hX, HM.out] at hRT
      rw [hX]
      clear hX
      go_wp2_with fail
      refine (hRR _ hc5).mono ?_
      rintro e w6 ⟨rfl, hc6⟩
      go_wp2_with fail
      refine (hKn _ hc6).mono ?_
      rintro e w7 ⟨rfl, hc7⟩
      have e0 := hc7.cell (b4.cell 0)
      have e1 := hc7.cell (b4.cell 1)
      go_wp2_with fail
      refine (hRT _ hc7).mono ?_
      rintro e w8 ⟨rfl, hc8⟩
      go_wp2
      go_ret
      exact ⟨rfl, bl4.trans (Below.mono hc8 hz4)⟩

end Go.Proofs.Ythcncdihgghbjaa
