/-
  KindParts comes out true: the walk.
-/
import Derived.Test.YthcncdihgghbjaaKnown
import Derived.Deep.RegionHeld3
namespace Go.Proofs.Ythcncdihgghbjaa
open Go Go.RowKit Go.Shelf

/-- All that lay in W0 lies in w as it lay. -/
def Cur (W0 w : World) : Prop := Below W0.heap.size W0 w
theorem Cur.refl (W : World) : Cur W W := Below.refl _ _
theorem Cur.drew {W0 w : World} (h : Cur W0 w) : Cur W0 w.drew := Below.drew h
theorem Cur.then {W0 w w' : World} (h : Cur W0 w) (k : Below w.heap.size w w') : Cur W0 w' := Below.trans h (k.mono (Below.size h))
theorem Cur.cell {W0 w : World} (h : Cur W0 w) {B i : Nat} {v : Value} (hc : W0.cell? ⟨B, i, none⟩ = some v) : w.cell? ⟨B, i, none⟩ = some v := (cat h (lt_of_cell hc)).trans hc
theorem Cur.holds {W0 w : World} (h : Cur W0 w) {ok : Nat → Prop} {ts : List Ty} {v : Value} (hh : Holds W0 ok ts v) : Holds w ok ts v := hh.bel h
/-- A contract that ends in 'Below', from any later world. -/
theorem Calls.cur {f : Nat} {args : Array Value} {W0 cur : World} {v : Value} (h : Cur W0 cur) (c : Calls Try.prog f args cur fun e w' => e = .returned v ∧ Below cur.heap.size cur w') : Calls Try.prog f args cur fun e w' => e = .returned v ∧ Cur W0 w' :=
  c.mono fun _ _ ⟨he, hb⟩ => ⟨he, h.then hb⟩

theorem size_of_few {t : Ty} (h : fewB 100 70 t = true) : t.size ≤ 100 ∧ t.depth ≤ 70 := by
  unfold fewB at h
  exact of_decide_eq_true h

set_option maxRecDepth 100000 in
set_option maxHeartbeats 3200000 in
theorem Parts_calls (t : Ty) (n : Int) (sl : Value) (w : World) (hh : Holds w okT t.args sl) :
    Calls Try.prog 3 #[tv sl t.base, .int .i64 n] w fun e w' => e = .returned (.bool true) ∧ Below w.heap.size w w' := by
  obtain ⟨a, cap, hsl, _⟩ := hh.shape
  generalize t.args.length = tn at hsl
  subst hsl
  obtain ⟨N, hN⟩ : ∃ N, w.heap.size = N := ⟨_, rfl⟩
  rw [hN]
  obtain ⟨r, hr⟩ : ∃ r, fewB 100 70 t = r := ⟨_, rfl⟩
  have hfew := fun W s (hW : Holds W okT [t] s) => lawFew_calls [t] okT s W (by simp) hW
  rw [show [t].all (fewB 100 70) = r by rw [← hr]; simp] at hfew
  have HR : Hid (fewB 100 70 t = r) := hr
  clear hr
  go_enter Try.func3, Try.ntmps3
  go_wp2_with fail
  generalize hw1 : w.alloc (.cells #[.slice a tn cap, .int .i64 t.base] 24) = w1
  have b1 : Blk w1 N 24 #[.slice a tn cap, .int .i64 t.base] := by rw [← hw1]; exact Blk.new' w N 24 _ hN
  have bl1 : Below N w w1 := by rw [← hw1]; exact (Below.refl N w).alloc (by omega) _
  have hh1 : Holds w1 okT t.args (.slice a tn cap) := hh.bel (by rw [hN]; exact bl1)
  have hz1 : w1.heap.size = N + 1 := by rw [← hw1]; simp [hN]
  clear hw1
  generalize hw2 : w1.alloc (.cells #[.slice a tn cap, .int .i64 t.base] 24) = w2
  have b2 : Blk w2 N 24 #[.slice a tn cap, .int .i64 t.base] := by rw [← hw2]; exact b1.alloc _
  have bl2 : Below N w w2 := by rw [← hw2]; exact bl1.alloc (by omega) _
  have hh2 : Holds w2 okT t.args (.slice a tn cap) := by rw [← hw2]; exact hh1.alloc _
  have hf2 : Holds w2 okT [t] (.slice (some ⟨N + 1, 0, none⟩) 1 1) := by
    rw [← hw2]
    exact holds_built w1 (N + 1) hz1 [(.slice a tn cap, t)] 24 (fun p hp => by rw [List.mem_singleton.1 hp]; exact hh1) 1 rfl _ rfl
  clear hw2 b1 bl1 hh1 hz1
  refine (hfew _ _ hf2).mono ?_
  rintro e w3 ⟨rfl, hb3⟩
  have hz2 : N ≤ w2.heap.size := by have := bl2.size; omega
  have b3 := b2.below hb3 b2.lt
  have bl3 : Below N w w3 := bl2.trans (hb3.mono hz2)
  have hh3 := hh2.bel hb3
  have hz3 : N ≤ w3.heap.size := Nat.le_trans hz2 hb3.size
  clear b2 bl2 hh2 hf2 hb3 hz2 hfew
  have c0 := b3.cell 0
  have c1 := b3.cell 1
  cases r
  · go_wp2_with fail
    refine (known_calls _).mono ?_
    rintro e w4 ⟨rfl, hb4⟩
    go_wp2
    go_ret
    exact ⟨rfl, bl3.trans (hb4.mono hz3)⟩
  · obtain ⟨hs1, hd1⟩ := size_of_few HR.out
    go_wp2_with fail
    refine (To_calls t okT _ _ hh3 (by omega)).mono ?_
    rintro e w4 ⟨v4, rfl, h4, hb4⟩
    have h4' := h4.t
    obtain ⟨a4, cap4, hv4, _⟩ := h4.shape
    generalize t.args.length = tn4 at hv4
    subst hv4
    have b4 := b3.below hb4 b3.lt
    have bl4 : Below N w w4 := bl3.trans (hb4.mono hz3)
    have hh4 := hh3.bel hb4
    have hz4 : N ≤ w4.heap.size := Nat.le_trans hz3 hb4.size
    clear b3 bl3 hh3 hb4 hz3 h4 c0 c1
    obtain ⟨X, hX⟩ : ∃ X, w4.heap.size = X := ⟨_, rfl⟩
    go_wp2_with fail
    generalize hw5 : w4.alloc (.cells #[.slice a4 tn4 cap4, .int .i64 t.base] 29) = w5
    have b5 : Blk w5 N 24 #[.slice a tn cap, .int .i64 t.base] := by rw [← hw5]; exact b4.alloc _
    have x5 : Blk w5 X 29 #[.slice a4 tn4 cap4, .int .i64 t.base] := by rw [← hw5]; exact Blk.new' _ X 29 _ hX
    have bl5 : Below N w w5 := by rw [← hw5]; exact bl4.alloc (by omega) _
    have hh5 : Holds w5 okT t.args (.slice a tn cap) := by rw [← hw5]; exact hh4.alloc _
    have hx5 : Holds w5 okT t.args (.slice a4 tn4 cap4) := by rw [← hw5]; exact h4'.alloc _
    have hz5 : N ≤ w5.heap.size := by have := bl5.size; omega
    clear hw5 b4 bl4 hh4 h4' hX hz4
    have c0 := b5.cell 0
    have c1 := b5.cell 1
    have d0 := x5.cell 0
    have d1 := x5.cell 1
    have hK : ∀ v, Cur w5 v → v.cell? ⟨N, 0, none⟩ = some (.slice a tn cap) ∧ v.cell? ⟨N, 1, none⟩ = some (.int .i64 t.base) ∧ v.cell? ⟨X, 0, none⟩ = some (.slice a4 tn4 cap4) ∧ v.cell? ⟨X, 1, none⟩ = some (.int .i64 t.base) := fun v hv => ⟨hv.cell c0, hv.cell c1, hv.cell d0, hv.cell d1⟩
    have k9 := fun (cur : World) (hc : Cur w5 cur) => Calls.cur hc (known_calls cur)
    have k11 := fun (cur : World) (hc : Cur w5 cur) => Calls.cur hc (kRight_calls n t okT _ cur (hc.holds hx5) (by omega))
    have k12 := fun (cur : World) (hc : Cur w5 cur) => Calls.cur hc (refRight_calls n t okT _ cur (hc.holds hh5) (by omega))
    have k13 := fun (cur : World) (hc : Cur w5 cur) => Calls.cur hc (kSize_calls t okT _ cur (hc.holds hx5) (by omega))
    have k14 := fun (cur : World) (hc : Cur w5 cur) => Calls.cur hc (Size_calls t okT _ cur (hc.holds hh5) (by omega))
    have k15 := fun (cur : World) (hc : Cur w5 cur) => Calls.cur hc (kOrder_calls t okT _ cur (hc.holds hx5) (by omega))
    have k16 := fun (cur : World) (hc : Cur w5 cur) => Calls.cur hc (Order_calls t okT _ cur (hc.holds hh5) (by omega))
    have k17 := fun (cur : World) (hc : Cur w5 cur) => Calls.cur hc (kDepth_calls t okT _ cur (hc.holds hx5) (by omega))
    have k18 := fun (cur : World) (hc : Cur w5 cur) => Calls.cur hc (Depth_calls t okT _ cur (hc.holds hh5) (by omega))
    have k20 : ∀ cur, Cur w5 cur → Calls Try.prog 20 #[tv (.slice a4 tn4 cap4) t.base] cur fun e w' => ∃ v, e = .returned (tv v t.base) ∧ Holds w' okT t.args v ∧ Cur w5 w' := fun cur hc =>
      (Of_calls t okT _ cur (hc.holds hx5) (by omega)).mono fun e w' ⟨v, h1, h2, h3⟩ => ⟨v, h1, h2.t, hc.then h3⟩
    have k19 : ∀ cur v, Cur w5 cur → Holds cur okT t.args v → Calls Try.prog 19 #[tv v t.base, tv (.slice a tn cap) t.base] cur fun e w' => e = .returned (.bool true) ∧ Cur w5 w' := fun cur v hc hv => by
      have := Calls.cur hc (Same_calls t t okT okT v _ cur hv (hc.holds hh5) (by omega))
      rwa [t.same_self] at this
    generalize rightB n t = rb at *
    generalize (t.size : Int) = sz at *
    generalize (t.depth : Int) = dp at *
    have hcur := Cur.refl w5
    go_region_held3 (fun v => v.cell? ⟨N, 0, none⟩ = some (.slice a tn cap) ∧ v.cell? ⟨N, 1, none⟩ = some (.int .i64 t.base) ∧ v.cell? ⟨X, 0, none⟩ = some (.slice a4 tn4 cap4) ∧ v.cell? ⟨X, 1, none⟩ = some (.int .i64 t.base))
      (first | exact hK _ (by first | assumption | (refine Cur.drew ?_; assumption)))
      (first
        | (go_at_call 9; refine (k9 _ (by first | assumption | (refine Cur.drew ?_; assumption))).mono ?_; rintro e y9 ⟨rfl, i9⟩)
        | (go_at_call 11; refine (k11 _ (by first | assumption | (refine Cur.drew ?_; assumption))).mono ?_; rintro e y11 ⟨rfl, i11⟩)
        | (go_at_call 12; refine (k12 _ (by first | assumption | (refine Cur.drew ?_; assumption))).mono ?_; rintro e y12 ⟨rfl, i12⟩)
        | (go_at_call 13; refine (k13 _ (by first | assumption | (refine Cur.drew ?_; assumption))).mono ?_; rintro e y13 ⟨rfl, i13⟩)
        | (go_at_call 14; refine (k14 _ (by first | assumption | (refine Cur.drew ?_; assumption))).mono ?_; rintro e y14 ⟨rfl, i14⟩)
        | (go_at_call 15; refine (k15 _ (by first | assumption | (refine Cur.drew ?_; assumption))).mono ?_; rintro e y15 ⟨rfl, i15⟩)
        | (go_at_call 16; refine (k16 _ (by first | assumption | (refine Cur.drew ?_; assumption))).mono ?_; rintro e y16 ⟨rfl, i16⟩)
        | (go_at_call 17; refine (k17 _ (by first | assumption | (refine Cur.drew ?_; assumption))).mono ?_; rintro e y17 ⟨rfl, i17⟩)
        | (go_at_call 18; refine (k18 _ (by first | assumption | (refine Cur.drew ?_; assumption))).mono ?_; rintro e y18 ⟨rfl, i18⟩)
        | (go_at_call 20; refine (k20 _ (by first | assumption | (refine Cur.drew ?_; assumption))).mono ?_; rintro e y20 ⟨v20, rfl, hv20, i20⟩)
        | (go_at_call 19; refine (k19 _ _ (by first | assumption | (refine Cur.drew ?_; assumption)) hv20).mono ?_; rintro e y19 ⟨rfl, i19⟩))
    go_wp2
    go_ret
    exact ⟨rfl, bl5.trans (Below.mono i19 hz5)⟩

end Go.Proofs.Ythcncdihgghbjaa
