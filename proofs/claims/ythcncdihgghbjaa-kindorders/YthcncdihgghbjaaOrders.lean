/-
  KindOrders comes out true: the walk.
-/
import Derived.Test.YthcncdihgghbjaaThree
import Derived.Deep.RegionHeldLaw
namespace Go.Proofs.Ythcncdihgghbjaa
open Go Go.RowKit Go.Shelf

def actO (N : Nat) (T U V : Value) (s7 s8 s9 s20 s21 s22 s23 s24 s25 : Value) : Act :=
  { tmps := #[T, U, V, ptr N, ptr (N + 1), ptr (N + 1 + 1), .bool false, s7, s8, s9, undef, undef, undef, T, U, V, .slice (some ⟨N + 1 + 1 + 1, 0, none⟩) 3 3, .bool true, .bool false, undef, s20, s21, s22, s23, s24, s25, undef, undef, undef, undef, undef, undef, undef, undef, undef, undef, undef, undef, undef, undef, undef, undef, undef, undef, undef, undef, undef, undef, undef, undef, undef, undef, undef, undef, undef, undef, undef, undef, undef, undef, undef, undef, undef, undef, undef, undef, undef, undef, undef, undef, undef, undef, undef, undef, undef, undef, undef, undef, undef, undef, undef, undef, undef, undef, undef, undef], defers := [] }

set_option maxRecDepth 100000 in
set_option maxHeartbeats 6400000 in
theorem Orders_calls (t u v : Ty) (sl su sv : Value) (w : World) (ht : Holds w okT t.args sl) (hu : Holds w okT u.args su) (hv : Holds w okT v.args sv) :
    Calls Try.prog 4 #[tv sl t.base, tv su u.base, tv sv v.base] w fun e w' => e = .returned (.bool true) ∧ Below w.heap.size w w' := by
  obtain ⟨ta, tc, hs1, _⟩ := ht.shape
  generalize t.args.length = tn at hs1
  obtain ⟨ua, uc, hs2, _⟩ := hu.shape
  generalize u.args.length = un at hs2
  obtain ⟨va, vc, hs3, _⟩ := hv.shape
  generalize v.args.length = vn at hs3
  subst hs1 hs2 hs3
  obtain ⟨N, hN⟩ : ∃ N, w.heap.size = N := ⟨_, rfl⟩
  rw [hN]
  obtain ⟨r, hr⟩ : ∃ r, [t, u, v].all (fewB 100 70) = r := ⟨_, rfl⟩
  have hfew := fun W s (hW : Holds W okT [t, u, v] s) => lawFew_calls [t, u, v] okT s W (by simp) hW
  rw [hr] at hfew
  have HR : Hid ([t, u, v].all (fewB 100 70) = r) := hr
  clear hr
  go_enter Try.func4, Try.ntmps4
  go_wp2_with fail
  generalize hw1 : ((w.alloc (.cells #[.slice ta tn tc, .int .i64 t.base] 24)).alloc (.cells #[.slice ua un uc, .int .i64 u.base] 24)).alloc (.cells #[.slice va vn vc, .int .i64 v.base] 24) = w1
  have b1 : Blk w1 N 24 #[.slice ta tn tc, .int .i64 t.base] := by rw [← hw1]; exact ((Blk.new' w N 24 _ hN).alloc _).alloc _
  have b2 : Blk w1 (N + 1) 24 #[.slice ua un uc, .int .i64 u.base] := by rw [← hw1]; exact (Blk.new' _ (N + 1) 24 _ (by simp [hN])).alloc _
  have b3 : Blk w1 (N + 1 + 1) 24 #[.slice va vn vc, .int .i64 v.base] := by rw [← hw1]; exact Blk.new' _ (N + 1 + 1) 24 _ (by simp [hN])
  have bl1 : Below N w w1 := by rw [← hw1]; exact (((Below.refl N w).alloc (by omega) _).alloc (by simp; omega) _).alloc (by simp; omega) _
  have hz1 : w1.heap.size = N + 1 + 1 + 1 := by rw [← hw1]; simp [hN]
  have hbw : Below w.heap.size w w1 := by rw [hN]; exact bl1
  have k1 := ht.bel hbw
  have k2 := hu.bel hbw
  have k3 := hv.bel hbw
  clear hw1 hbw
  generalize hw2 : w1.alloc (.cells #[.slice ta tn tc, .int .i64 t.base, .slice ua un uc, .int .i64 u.base, .slice va vn vc, .int .i64 v.base] 24) = w2
  have hf2 : Holds w2 okT [t, u, v] (.slice (some ⟨N + 1 + 1 + 1, 0, none⟩) 3 3) := by
    rw [← hw2]
    refine holds_built w1 (N + 1 + 1 + 1) hz1 [(.slice ta tn tc, t), (.slice ua un uc, u), (.slice va vn vc, v)] 24 (fun p hp => ?_) 3 rfl _ rfl
    simp only [List.mem_cons, List.not_mem_nil, or_false] at hp
    rcases hp with rfl | rfl | rfl
    · exact k1
    · exact k2
    · exact k3
  have hc2 : Cur w1 w2 := by rw [← hw2]; exact (Cur.refl w1).alloc _
  clear hw2
  refine (hfew _ _ hf2).mono ?_
  rintro e w3 ⟨rfl, hb3⟩
  have hc3 := hc2.then hb3
  have hz1' : N ≤ w1.heap.size := by omega
  clear hc2 hb3 hf2 hfew hz1
  cases r
  · go_wp2_with fail
    refine (known_calls _).mono ?_
    rintro e w4 ⟨rfl, hb4⟩
    go_wp2
    go_ret
    exact ⟨rfl, bl1.trans (Below.mono (hc3.then hb4) hz1')⟩
  · have hall := HR.out
    simp only [List.all_cons, List.all_nil, Bool.and_true, Bool.and_eq_true] at hall
    obtain ⟨f1, f2, f3⟩ := hall
    obtain ⟨s1, _⟩ := size_of_few f1
    obtain ⟨s2, _⟩ := size_of_few f2
    obtain ⟨s3, _⟩ := size_of_few f3
    clear f1 f2 f3
    have c0 := b1.cell 0
    have c1 := b1.cell 1
    have c2 := b2.cell 0
    have c3 := b2.cell 1
    have c4 := b3.cell 0
    have c5 := b3.cell 1
    have hK : ∀ x, Cur w1 x → x.cell? ⟨N, 0, none⟩ = some (.slice ta tn tc) ∧ x.cell? ⟨N, 1, none⟩ = some (.int .i64 t.base) ∧ x.cell? ⟨N + 1, 0, none⟩ = some (.slice ua un uc) ∧ x.cell? ⟨N + 1, 1, none⟩ = some (.int .i64 u.base) ∧ x.cell? ⟨N + 1 + 1, 0, none⟩ = some (.slice va vn vc) ∧ x.cell? ⟨N + 1 + 1, 1, none⟩ = some (.int .i64 v.base) := fun x hx => ⟨hx.cell c0, hx.cell c1, hx.cell c2, hx.cell c3, hx.cell c4, hx.cell c5⟩
    have gen : ∀ (q : Ty) (s : Value) (cur : World), Cur w1 cur → Holds w1 okT q.args s → q.size ≤ 100 → Calls Try.prog 10 #[tv s q.base] cur fun e w' => ∃ x, e = .returned (tv x q.base) ∧ Holds w' (fun b => cur.heap.size ≤ b) q.args x ∧ Below cur.heap.size cur w' := fun q s cur hc hq hs =>
      To_calls q okT s cur (hc.holds hq) (by omega)
    go_wp2_with fail
    refine wp_region_any (by kernel_rfl) ?_
    refine wpAny_stage (fun listed a w => ∃ b0 b1 b2 b3 b4 b5 b6 b7 b8 s7 s8 s9 s20 s21 s22 s23 s24 s25, listed = #[b0, b1, b2, b3, b4, b5, b6, b7, b8, false, false, false] ∧ a = actO N (tv (.slice ta tn tc) t.base) (tv (.slice ua un uc) u.base) (tv (.slice va vn vc) v.base) s7 s8 s9 s20 s21 s22 s23 s24 s25 ∧ St w1 t u v (tv (.slice ta tn tc) t.base) (tv (.slice ua un uc) u.base) (tv (.slice va vn vc) v.base) b0 b1 b2 b3 b4 b5 b6 b7 b8 s7 s8 s9 s20 s21 s22 s23 s24 s25 w)
      #[true, true, true, true, true, true, true, true, true, false, false, false] ?hfin ?hne ?hstep _ _ _ _ ?h0 rfl
    case h0 =>
      refine ⟨false, false, false, false, false, false, false, false, false, undef, undef, undef, undef, undef, undef, undef, undef, undef, rfl, rfl, ?_⟩
      exact { cur := hc3.drew, l0 := (fun e => by cases e), l2 := (fun e => by cases e), l4 := (fun e => by cases e), c1 := (fun e => by cases e), c3 := (fun e => by cases e), c5 := (fun e => by cases e), a6 := (fun e => by cases e), a7 := (fun e => by cases e), a8 := (fun e => by cases e), n6 := fun _ => rfl, n7 := fun _ => rfl, n8 := fun _ => rfl, d67 := (fun e => by cases e), d68 := (fun e => by cases e), d78 := (fun e => by cases e) }
    case hne =>
      rintro listed a w ⟨b0, b1, b2, b3, b4, b5, b6, b7, b8, s7, s8, s9, s20, s21, s22, s23, s24, s25, rfl, _, hst⟩ _hn
      clear hst
      revert b0 b1 b2 b3 b4 b5 b6 b7 b8
      decide +kernel
    case hstep =>
      rintro listed a w ⟨b0, b1, b2, b3, b4, b5, b6, b7, b8, s7, s8, s9, s20, s21, s22, s23, s24, s25, rfl, rfl, hst⟩ hne i hi
      obtain ⟨hg, o, ho, hdep⟩ := mem_ready.1 hi
      have hi12 : i < 12 := by
        rcases Nat.lt_or_ge i 12 with h | h
        · exact h
        · rw [Array.getD_eq_getD_getElem?, Array.getElem?_eq_none (by simpa using h)] at hg; cases hg
      obtain ⟨r0, r1, r2, r3, r4, r5⟩ := hK w hst.cur
      match i, hi12 with
      | 0, _ =>
        clear ho hdep hi hg
        refine wpOp_plain { dst := some 20, op := .load 24 (.tmp 3), type := 24, pos := "law.go:67", after := #[], guard := none } rfl rfl ?_
        intro K' hK'
        have hK3 := hK' (actO N (tv (.slice ta tn tc) t.base) (tv (.slice ua un uc) u.base) (tv (.slice va vn vc) v.base) s7 s8 s9 (tv (.slice ta tn tc) t.base) s21 s22 s23 s24 s25) w ⟨true, b1, b2, b3, b4, b5, b6, b7, b8, s7, s8, s9, _, s21, s22, s23, s24, s25, rfl, rfl, hst.load0⟩
        clear hK'
        unfold actO at *
        go_simp
        exact hK3
      | 1, _ =>
        have hop : o = { dst := some 21, op := .call { callee := .value (.func 10), args := #[.tmp 20], argTypes := #[24] }, type := 29, pos := "law.go:67", after := #[{ on := 0, ground := .data }], guard := none } := (Option.some.inj ho).symm
        have e0 : b0 = true := hdep { on := 0, ground := .data } (by rw [hop]; simp) rfl
        have hsl := hst.l0 e0
        subst hsl
        clear ho hi hg
        refine wpOp_plain { dst := some 21, op := .call { callee := .value (.func 10), args := #[.tmp 20], argTypes := #[24] }, type := 29, pos := "law.go:67", after := #[{ on := 0, ground := .data }], guard := none } rfl rfl ?_
        intro K' hK'
        have hcall := gen t (.slice ta tn tc) w hst.cur k1 s1
        have hK3 := fun (w' : World) (x : Value) (hx : Holds w' (fun b => w.heap.size ≤ b) t.args x) (hb : Below w.heap.size w w') => hK' (actO N (tv (.slice ta tn tc) t.base) (tv (.slice ua un uc) u.base) (tv (.slice va vn vc) v.base) s7 s8 s9 (tv (.slice ta tn tc) t.base) (tv x t.base) s22 s23 s24 s25) w' ⟨b0, true, b2, b3, b4, b5, b6, b7, b8, s7, s8, s9, _, _, s22, s23, s24, s25, rfl, rfl, hst.call1 e0 hb hx⟩
        clear hK'
        unfold actO at *
        go_simp
        go_at_call 10
        refine hcall.mono ?_
        rintro e w' ⟨x, rfl, hx, hb⟩
        exact hK3 w' x hx hb
      | 2, _ =>
        clear ho hdep hi hg
        refine wpOp_plain { dst := some 22, op := .load 24 (.tmp 4), type := 24, pos := "law.go:67", after := #[], guard := none } rfl rfl ?_
        intro K' hK'
        have hK3 := hK' (actO N (tv (.slice ta tn tc) t.base) (tv (.slice ua un uc) u.base) (tv (.slice va vn vc) v.base) s7 s8 s9 s20 s21 (tv (.slice ua un uc) u.base) s23 s24 s25) w ⟨b0, b1, true, b3, b4, b5, b6, b7, b8, s7, s8, s9, s20, s21, _, s23, s24, s25, rfl, rfl, hst.load2⟩
        clear hK'
        unfold actO at *
        go_simp
        exact hK3
      | 3, _ =>
        have hop : o = { dst := some 23, op := .call { callee := .value (.func 10), args := #[.tmp 22], argTypes := #[24] }, type := 29, pos := "law.go:67", after := #[{ on := 2, ground := .data }, { on := 1, ground := .chain }], guard := none } := (Option.some.inj ho).symm
        have e2 : b2 = true := hdep { on := 2, ground := .data } (by rw [hop]; simp) rfl
        have e1 : b1 = true := hdep { on := 1, ground := .chain } (by rw [hop]; simp) rfl
        have hsl := hst.l2 e2
        subst hsl
        clear ho hi hg
        refine wpOp_plain { dst := some 23, op := .call { callee := .value (.func 10), args := #[.tmp 22], argTypes := #[24] }, type := 29, pos := "law.go:67", after := #[{ on := 2, ground := .data }, { on := 1, ground := .chain }], guard := none } rfl rfl ?_
        intro K' hK'
        have hcall := gen u (.slice ua un uc) w hst.cur k2 s2
        have hK3 := fun (w' : World) (x : Value) (hx : Holds w' (fun b => w.heap.size ≤ b) u.args x) (hb : Below w.heap.size w w') => hK' (actO N (tv (.slice ta tn tc) t.base) (tv (.slice ua un uc) u.base) (tv (.slice va vn vc) v.base) s7 s8 s9 s20 s21 (tv (.slice ua un uc) u.base) (tv x u.base) s24 s25) w' ⟨b0, b1, b2, true, b4, b5, b6, b7, b8, s7, s8, s9, s20, s21, _, _, s24, s25, rfl, rfl, hst.call3 e2 e1 hb hx⟩
        clear hK'
        unfold actO at *
        go_simp
        go_at_call 10
        refine hcall.mono ?_
        rintro e w' ⟨x, rfl, hx, hb⟩
        exact hK3 w' x hx hb
      | 4, _ =>
        clear ho hdep hi hg
        refine wpOp_plain { dst := some 24, op := .load 24 (.tmp 5), type := 24, pos := "law.go:67", after := #[], guard := none } rfl rfl ?_
        intro K' hK'
        have hK3 := hK' (actO N (tv (.slice ta tn tc) t.base) (tv (.slice ua un uc) u.base) (tv (.slice va vn vc) v.base) s7 s8 s9 s20 s21 s22 s23 (tv (.slice va vn vc) v.base) s25) w ⟨b0, b1, b2, b3, true, b5, b6, b7, b8, s7, s8, s9, s20, s21, s22, s23, _, s25, rfl, rfl, hst.load4⟩
        clear hK'
        unfold actO at *
        go_simp
        exact hK3
      | 5, _ =>
        have hop : o = { dst := some 25, op := .call { callee := .value (.func 10), args := #[.tmp 24], argTypes := #[24] }, type := 29, pos := "law.go:67", after := #[{ on := 4, ground := .data }, { on := 3, ground := .chain }], guard := none } := (Option.some.inj ho).symm
        have e4 : b4 = true := hdep { on := 4, ground := .data } (by rw [hop]; simp) rfl
        have e3 : b3 = true := hdep { on := 3, ground := .chain } (by rw [hop]; simp) rfl
        have hsl := hst.l4 e4
        subst hsl
        clear ho hi hg
        refine wpOp_plain { dst := some 25, op := .call { callee := .value (.func 10), args := #[.tmp 24], argTypes := #[24] }, type := 29, pos := "law.go:67", after := #[{ on := 4, ground := .data }, { on := 3, ground := .chain }], guard := none } rfl rfl ?_
        intro K' hK'
        have hcall := gen v (.slice va vn vc) w hst.cur k3 s3
        have hK3 := fun (w' : World) (x : Value) (hx : Holds w' (fun b => w.heap.size ≤ b) v.args x) (hb : Below w.heap.size w w') => hK' (actO N (tv (.slice ta tn tc) t.base) (tv (.slice ua un uc) u.base) (tv (.slice va vn vc) v.base) s7 s8 s9 s20 s21 s22 s23 (tv (.slice va vn vc) v.base) (tv x v.base)) w' ⟨b0, b1, b2, b3, b4, true, b6, b7, b8, s7, s8, s9, s20, s21, s22, s23, _, _, rfl, rfl, hst.call5 e4 e3 hb hx⟩
        clear hK'
        unfold actO at *
        go_simp
        go_at_call 10
        refine hcall.mono ?_
        rintro e w' ⟨x, rfl, hx, hb⟩
        exact hK3 w' x hx hb
      | 6, _ =>
        clear ho hdep hi hg
        refine wpOp_plain { dst := some 7, op := .alloc 29, type := 0, pos := "law.go:67", after := #[], guard := none } rfl rfl ?_
        intro K' hK'
        have hK3 := hK' (actO N (tv (.slice ta tn tc) t.base) (tv (.slice ua un uc) u.base) (tv (.slice va vn vc) v.base) (ptr w.heap.size) s8 s9 s20 s21 s22 s23 s24 s25) (w.alloc (.cells #[.slice none 0 0, .int .i64 0] 29)) ⟨b0, b1, b2, b3, b4, b5, true, b7, b8, _, s8, s9, s20, s21, s22, s23, s24, s25, rfl, rfl, hst.alloc7⟩
        clear hK'
        unfold actO at *
        go_simp
        exact hK3
      | 7, _ =>
        clear ho hdep hi hg
        refine wpOp_plain { dst := some 8, op := .alloc 29, type := 0, pos := "law.go:67", after := #[], guard := none } rfl rfl ?_
        intro K' hK'
        have hK3 := hK' (actO N (tv (.slice ta tn tc) t.base) (tv (.slice ua un uc) u.base) (tv (.slice va vn vc) v.base) s7 (ptr w.heap.size) s9 s20 s21 s22 s23 s24 s25) (w.alloc (.cells #[.slice none 0 0, .int .i64 0] 29)) ⟨b0, b1, b2, b3, b4, b5, b6, true, b8, s7, _, s9, s20, s21, s22, s23, s24, s25, rfl, rfl, hst.alloc8⟩
        clear hK'
        unfold actO at *
        go_simp
        exact hK3
      | 8, _ =>
        clear ho hdep hi hg
        refine wpOp_plain { dst := some 9, op := .alloc 29, type := 0, pos := "law.go:67", after := #[], guard := none } rfl rfl ?_
        intro K' hK'
        have hK3 := hK' (actO N (tv (.slice ta tn tc) t.base) (tv (.slice ua un uc) u.base) (tv (.slice va vn vc) v.base) s7 s8 (ptr w.heap.size) s20 s21 s22 s23 s24 s25) (w.alloc (.cells #[.slice none 0 0, .int .i64 0] 29)) ⟨b0, b1, b2, b3, b4, b5, b6, b7, true, s7, s8, _, s20, s21, s22, s23, s24, s25, rfl, rfl, hst.alloc9⟩
        clear hK'
        unfold actO at *
        go_simp
        exact hK3
      | 9, _ =>
        exfalso
        have hd := hdep
        rw [← Option.some.inj ho] at hd
        have e5 : b5 = true := hd { on := 5, ground := .chain } (by simp) rfl
        have e6 : b6 = true := hd { on := 6, ground := .data } (by simp) rfl
        have e7 : b7 = true := hd { on := 7, ground := .phase } (by simp) rfl
        have e8 : b8 = true := hd { on := 8, ground := .phase } (by simp) rfl
        obtain ⟨e4, e3, _⟩ := hst.c5 e5
        obtain ⟨e2, e1, _⟩ := hst.c3 e3
        obtain ⟨e0, _⟩ := hst.c1 e1
        exact hne (by rw [e0, e1, e2, e3, e4, e5, e6, e7, e8])
      | 10, _ =>
        exfalso
        have hd := hdep
        rw [← Option.some.inj ho] at hd
        have e9 : false = true := hd { on := 9, ground := .chain } (by simp) rfl
        cases e9
      | 11, _ =>
        exfalso
        have hd := hdep
        rw [← Option.some.inj ho] at hd
        have e9 : false = true := hd { on := 10, ground := .chain } (by simp) rfl
        cases e9
    case hfin =>
      rintro a wz ⟨b0, b1, b2, b3, b4, b5, b6, b7, b8, s7, s8, s9, s20, s21, s22, s23, s24, s25, hl, rfl, hst⟩
      obtain ⟨rfl, rfl, rfl, rfl, rfl, rfl, rfl, rfl, rfl⟩ : b0 = true ∧ b1 = true ∧ b2 = true ∧ b3 = true ∧ b4 = true ∧ b5 = true ∧ b6 = true ∧ b7 = true ∧ b8 = true := by
        simp at hl
        simp [hl]
      obtain ⟨_, a1, n1, d1, rfl, h1⟩ := hst.c1 rfl
      obtain ⟨_, _, a2, n2, d2, rfl, h2⟩ := hst.c3 rfl
      obtain ⟨_, _, a3, n3, d3, rfl, h3⟩ := hst.c5 rfl
      obtain ⟨x7, rfl, b7, m7⟩ := hst.a6 rfl
      obtain ⟨x8, rfl, b8, m8⟩ := hst.a7 rfl
      obtain ⟨x9, rfl, b9, m9⟩ := hst.a8 rfl
      have n78 : x7 ≠ x8 := fun e => hst.d67 rfl rfl (by rw [e])
      have n79 : x7 ≠ x9 := fun e => hst.d68 rfl rfl (by rw [e])
      have n89 : x8 ≠ x9 := fun e => hst.d78 rfl rfl (by rw [e])
      obtain rfl := hst.l0 rfl
      obtain rfl := hst.l2 rfl
      obtain rfl := hst.l4 rfl
      have hcw := hst.cur
      clear hl hst gen hc3 w3
      unfold actO
      show wpAny _ _ _ _ 3 _ _ _
      refine wpAny_one 9 { dst := none, op := .store 29 (.tmp 7) (.tmp 21), type := 0, pos := "law.go:67", after := #[{ on := 6, ground := .data }, { on := 1, ground := .data }, { on := 5, ground := .chain }, { on := 0, ground := .phase }, { on := 1, ground := .phase }, { on := 2, ground := .textOnly .lateStores }, { on := 3, ground := .textOnly .lateStoresUnsure }, { on := 4, ground := .textOnly .lateStores }, { on := 5, ground := .textOnly .lateStoresUnsure }, { on := 6, ground := .phase }, { on := 7, ground := .phase }, { on := 8, ground := .phase }], guard := none } (by decide +kernel) rfl rfl ?_
      intro K' hK'
      have f0 := b7.cell 0
      have f1 := b7.cell 1
      have f2 := b7.frozen 0
      have f3 := b7.frozen 1
      go_simp
      have B7 := (b7.set 0 (.slice a1 n1 d1)).set 1 (.int .i64 t.base)
      have b8' := (b8.other (B' := x7) (n78.symm) 0 (.slice a1 n1 d1)).other (B' := x7) (n78.symm) 1 (.int .i64 t.base)
      have b9' := (b9.other (B' := x7) (n79.symm) 0 (.slice a1 n1 d1)).other (B' := x7) (n79.symm) 1 (.int .i64 t.base)
      have h1' := holds_set2 (g := x7) h1 (fun b _ ho => ⟨fun e => ho.1 (by rw [e]), ho⟩) 0 1 (.slice a1 n1 d1) (.int .i64 t.base)
      have h2' := holds_set2 (g := x7) h2 (fun b _ ho => ⟨fun e => ho.1 (by rw [e]), ho⟩) 0 1 (.slice a1 n1 d1) (.int .i64 t.base)
      have h3' := holds_set2 (g := x7) h3 (fun b _ ho => ⟨fun e => ho.1 (by rw [e]), ho⟩) 0 1 (.slice a1 n1 d1) (.int .i64 t.base)
      have hc' : Below w1.heap.size w1 ((wz.setCell ⟨x7, 0, none⟩ (.slice a1 n1 d1)).setCell ⟨x7, 1, none⟩ (.int .i64 t.base)) := bset (bset hcw m7 _) m7 _
      clear b7 b8 b9 h1 h2 h3 hcw f0 f1 f2 f3
      generalize (wz.setCell ⟨x7, 0, none⟩ (.slice a1 n1 d1)).setCell ⟨x7, 1, none⟩ (.int .i64 t.base) = w4 at *
      refine hK' _ _ ?_
      clear hK'
      have b8 := b8'
      clear b8'
      have b9 := b9'
      clear b9'
      have h1 := h1'
      clear h1'
      have h2 := h2'
      clear h2'
      have h3 := h3'
      clear h3'
      have hcw : Cur w1 w4 := hc'
      clear hc'
      refine wpAny_one 10 { dst := none, op := .store 29 (.tmp 8) (.tmp 23), type := 0, pos := "law.go:67", after := #[{ on := 7, ground := .data }, { on := 3, ground := .data }, { on := 9, ground := .chain }, { on := 0, ground := .phase }, { on := 1, ground := .phase }, { on := 2, ground := .phase }, { on := 3, ground := .phase }, { on := 4, ground := .textOnly .lateStores }, { on := 5, ground := .textOnly .lateStoresUnsure }, { on := 6, ground := .phase }, { on := 7, ground := .phase }, { on := 8, ground := .phase }, { on := 9, ground := .phase }], guard := none } (by decide +kernel) rfl rfl ?_
      intro K2 hK2
      have f0 := b8.cell 0
      have f1 := b8.cell 1
      have f2 := b8.frozen 0
      have f3 := b8.frozen 1
      go_simp
      have B8 := (b8.set 0 (.slice a2 n2 d2)).set 1 (.int .i64 u.base)
      have B7' := (B7.other (B' := x8) (n78) 0 (.slice a2 n2 d2)).other (B' := x8) (n78) 1 (.int .i64 u.base)
      have b9' := (b9.other (B' := x8) (n89.symm) 0 (.slice a2 n2 d2)).other (B' := x8) (n89.symm) 1 (.int .i64 u.base)
      have h1' := holds_set2 (g := x8) h1 (fun b _ ho => ⟨fun e => ho.2.1 (by rw [e]), ho⟩) 0 1 (.slice a2 n2 d2) (.int .i64 u.base)
      have h2' := holds_set2 (g := x8) h2 (fun b _ ho => ⟨fun e => ho.2.1 (by rw [e]), ho⟩) 0 1 (.slice a2 n2 d2) (.int .i64 u.base)
      have h3' := holds_set2 (g := x8) h3 (fun b _ ho => ⟨fun e => ho.2.1 (by rw [e]), ho⟩) 0 1 (.slice a2 n2 d2) (.int .i64 u.base)
      have hc' : Below w1.heap.size w1 ((w4.setCell ⟨x8, 0, none⟩ (.slice a2 n2 d2)).setCell ⟨x8, 1, none⟩ (.int .i64 u.base)) := bset (bset hcw m8 _) m8 _
      clear b8 B7 b9 h1 h2 h3 hcw f0 f1 f2 f3
      generalize (w4.setCell ⟨x8, 0, none⟩ (.slice a2 n2 d2)).setCell ⟨x8, 1, none⟩ (.int .i64 u.base) = w5 at *
      refine hK2 _ _ ?_
      clear hK2
      have B7 := B7'
      clear B7'
      have b9 := b9'
      clear b9'
      have h1 := h1'
      clear h1'
      have h2 := h2'
      clear h2'
      have h3 := h3'
      clear h3'
      have hcw : Cur w1 w5 := hc'
      clear hc'
      refine wpAny_one 11 { dst := none, op := .store 29 (.tmp 9) (.tmp 25), type := 0, pos := "law.go:67", after := #[{ on := 8, ground := .data }, { on := 5, ground := .data }, { on := 10, ground := .chain }, { on := 0, ground := .phase }, { on := 1, ground := .phase }, { on := 2, ground := .phase }, { on := 3, ground := .phase }, { on := 4, ground := .phase }, { on := 5, ground := .phase }, { on := 6, ground := .phase }, { on := 7, ground := .phase }, { on := 8, ground := .phase }, { on := 9, ground := .phase }, { on := 10, ground := .phase }], guard := none } (by decide +kernel) rfl rfl ?_
      intro K3 hK3
      have f0 := b9.cell 0
      have f1 := b9.cell 1
      have f2 := b9.frozen 0
      have f3 := b9.frozen 1
      go_simp
      have B9 := (b9.set 0 (.slice a3 n3 d3)).set 1 (.int .i64 v.base)
      have B7' := (B7.other (B' := x9) (n79) 0 (.slice a3 n3 d3)).other (B' := x9) (n79) 1 (.int .i64 v.base)
      have B8' := (B8.other (B' := x9) (n89) 0 (.slice a3 n3 d3)).other (B' := x9) (n89) 1 (.int .i64 v.base)
      have h1' := holds_set2 (g := x9) h1 (fun b _ ho => ⟨fun e => ho.2.2 (by rw [e]), ho⟩) 0 1 (.slice a3 n3 d3) (.int .i64 v.base)
      have h2' := holds_set2 (g := x9) h2 (fun b _ ho => ⟨fun e => ho.2.2 (by rw [e]), ho⟩) 0 1 (.slice a3 n3 d3) (.int .i64 v.base)
      have h3' := holds_set2 (g := x9) h3 (fun b _ ho => ⟨fun e => ho.2.2 (by rw [e]), ho⟩) 0 1 (.slice a3 n3 d3) (.int .i64 v.base)
      have hc' : Below w1.heap.size w1 ((w5.setCell ⟨x9, 0, none⟩ (.slice a3 n3 d3)).setCell ⟨x9, 1, none⟩ (.int .i64 v.base)) := bset (bset hcw m9 _) m9 _
      clear b9 B7 B8 h1 h2 h3 hcw f0 f1 f2 f3
      generalize (w5.setCell ⟨x9, 0, none⟩ (.slice a3 n3 d3)).setCell ⟨x9, 1, none⟩ (.int .i64 v.base) = w6 at *
      refine hK3 _ _ ?_
      clear hK3
      have B7 := B7'
      clear B7'
      have B8 := B8'
      clear B8'
      have h1 := h1'
      clear h1'
      have h2 := h2'
      clear h2'
      have h3 := h3'
      clear h3'
      have hcw : Cur w1 w6 := hc'
      clear hc'
      refine ⟨by decide +kernel, ?_⟩
      have e1 := h1.t
      have e2 := h2.t
      have e3 := h3.t
      have q1 := hcw.holds k1
      have q2 := hcw.holds k2
      have hz6 : N ≤ w6.heap.size := Nat.le_trans hz1' (Below.size hcw)
      have blw : Below N w w6 := bl1.trans (Below.mono hcw hz1')
      have g0 := B7.cell 0
      have g1 := B7.cell 1
      have g2 := B8.cell 0
      have g3 := B8.cell 1
      have g4 := B9.cell 0
      have g5 := B9.cell 1
      obtain ⟨j0, j1, j2, j3, j4, j5⟩ := hK _ hcw
      have hL : ∀ x : World, Cur w6 x → x.cell? ⟨x7, 0, none⟩ = some (.slice a1 n1 d1) ∧ x.cell? ⟨x7, 1, none⟩ = some (.int .i64 t.base) ∧ x.cell? ⟨x8, 0, none⟩ = some (.slice a2 n2 d2) ∧ x.cell? ⟨x8, 1, none⟩ = some (.int .i64 u.base) ∧ x.cell? ⟨x9, 0, none⟩ = some (.slice a3 n3 d3) ∧ x.cell? ⟨x9, 1, none⟩ = some (.int .i64 v.base) ∧ x.cell? ⟨N, 0, none⟩ = some (.slice ta tn tc) ∧ x.cell? ⟨N, 1, none⟩ = some (.int .i64 t.base) ∧ x.cell? ⟨N + 1, 0, none⟩ = some (.slice ua un uc) ∧ x.cell? ⟨N + 1, 1, none⟩ = some (.int .i64 u.base) := fun x hx => ⟨hx.cell g0, hx.cell g1, hx.cell g2, hx.cell g3, hx.cell g4, hx.cell g5, hx.cell j0, hx.cell j1, hx.cell j2, hx.cell j3⟩
      have kTU := fun (cur : World) (hc : Cur w6 cur) => Calls.cur hc (Compare_calls t u okT _ _ cur (hc.holds e1) (hc.holds e2) (by omega) (by omega))
      have kUV := fun (cur : World) (hc : Cur w6 cur) => Calls.cur hc (Compare_calls u v okT _ _ cur (hc.holds e2) (hc.holds e3) (by omega) (by omega))
      have kTV := fun (cur : World) (hc : Cur w6 cur) => Calls.cur hc (Compare_calls t v okT _ _ cur (hc.holds e1) (hc.holds e3) (by omega) (by omega))
      have kUT := fun (cur : World) (hc : Cur w6 cur) => Calls.cur hc (Compare_calls u t okT _ _ cur (hc.holds e2) (hc.holds e1) (by omega) (by omega))
      have kTT := fun (cur : World) (hc : Cur w6 cur) => Calls.cur hc (Compare_calls t t okT _ _ cur (hc.holds e1) (hc.holds e1) (by omega) (by omega))
      have k9 := fun (cur : World) (hc : Cur w6 cur) => Calls.cur hc (known_calls cur)
      have k22 := fun (cur : World) (hc : Cur w6 cur) => Calls.cur hc (Equal_calls t (by omega) u okT _ _ cur (hc.holds e1) (hc.holds e2))
      have k19 := fun (cur : World) (hc : Cur w6 cur) => Calls.cur hc (Same_calls t u okT okT _ _ cur (hc.holds q1) (hc.holds q2) (by omega))
      have k23 := fun (cur : World) (hc : Cur w6 cur) => Calls.cur hc (refCompare_calls t u okT _ _ cur (hc.holds q1) (hc.holds q2) (by omega) (by omega))
      rw [cmp_anti t u] at kUT
      rw [cmp_self t] at kTT
      have HT : Hid (t.cmp u ≤ 0 → u.cmp v ≤ 0 → t.cmp v ≤ 0) := cmp_trans t u v
      have HZ : (t.cmp u == 0) = t.same u := by
        rw [Bool.eq_iff_iff, beq_iff_eq, cmp_zero, t.same_iff]
      obtain ⟨lo1, lo2⟩ := cmp_lo t u
      obtain ⟨lo3, lo4⟩ := cmp_lo u v
      obtain ⟨lo5, lo6⟩ := cmp_lo t v
      generalize t.cmp u = p at *
      generalize u.cmp v = q at *
      generalize t.cmp v = r at *
      generalize t.same u = sm at *
      have hcur := Cur.refl w6
      have hwr1 : wrap64 (-p) = -p := by unfold wrap64; omega
      have hwr2 : IntKind.i64.wrap (-p) = -p := by rw [IntKind.wrap_i64]; omega
      go_wp2_with fail
      go_region_held3 (fun x => x.cell? ⟨x7, 0, none⟩ = some (.slice a1 n1 d1) ∧ x.cell? ⟨x7, 1, none⟩ = some (.int .i64 t.base) ∧ x.cell? ⟨x8, 0, none⟩ = some (.slice a2 n2 d2) ∧ x.cell? ⟨x8, 1, none⟩ = some (.int .i64 u.base) ∧ x.cell? ⟨x9, 0, none⟩ = some (.slice a3 n3 d3) ∧ x.cell? ⟨x9, 1, none⟩ = some (.int .i64 v.base) ∧ x.cell? ⟨N, 0, none⟩ = some (.slice ta tn tc) ∧ x.cell? ⟨N, 1, none⟩ = some (.int .i64 t.base) ∧ x.cell? ⟨N + 1, 0, none⟩ = some (.slice ua un uc) ∧ x.cell? ⟨N + 1, 1, none⟩ = some (.int .i64 u.base))
        (first | exact hL _ (by first | assumption | (refine Cur.drew ?_; assumption)))
        (first
          | (go_at_call 21; with_reducible refine (kTU _ (by first | assumption | (refine Cur.drew ?_; assumption))).mono ?_; rintro e y1 ⟨rfl, i1⟩)
          | (go_at_call 21; with_reducible refine (kUV _ (by first | assumption | (refine Cur.drew ?_; assumption))).mono ?_; rintro e y2 ⟨rfl, i2⟩)
          | (go_at_call 21; with_reducible refine (kTV _ (by first | assumption | (refine Cur.drew ?_; assumption))).mono ?_; rintro e y3 ⟨rfl, i3⟩))
      clear hcur i1 i2
      by_cases hp : 0 < p
      · have zp : decide (0 < p) = true := decide_eq_true hp
        go_wp2_with fail
        first
          | (go_region_held_law (fun x => x.cell? ⟨x7, 0, none⟩ = some (.slice a1 n1 d1) ∧ x.cell? ⟨x7, 1, none⟩ = some (.int .i64 t.base) ∧ x.cell? ⟨x8, 0, none⟩ = some (.slice a2 n2 d2) ∧ x.cell? ⟨x8, 1, none⟩ = some (.int .i64 u.base) ∧ x.cell? ⟨x9, 0, none⟩ = some (.slice a3 n3 d3) ∧ x.cell? ⟨x9, 1, none⟩ = some (.int .i64 v.base) ∧ x.cell? ⟨N, 0, none⟩ = some (.slice ta tn tc) ∧ x.cell? ⟨N, 1, none⟩ = some (.int .i64 t.base) ∧ x.cell? ⟨N + 1, 0, none⟩ = some (.slice ua un uc) ∧ x.cell? ⟨N + 1, 1, none⟩ = some (.int .i64 u.base))
                (first | exact hL _ (by first | assumption | (refine Cur.drew ?_; assumption)))
                (first
                  | (go_at_call 9; refine (k9 _ (by first | assumption | (refine Cur.drew ?_; assumption))).mono ?_; rintro e y4 ⟨rfl, i4⟩)
                  | (go_at_call 22; refine (k22 _ (by first | assumption | (refine Cur.drew ?_; assumption))).mono ?_; rintro e y5 ⟨rfl, i5⟩)
                  | (go_at_call 19; refine (k19 _ (by first | assumption | (refine Cur.drew ?_; assumption))).mono ?_; rintro e y6 ⟨rfl, i6⟩)
                  | (go_at_call 23; refine (k23 _ (by first | assumption | (refine Cur.drew ?_; assumption))).mono ?_; rintro e y7 ⟨rfl, i7⟩)
                  | (go_at_call 21; with_reducible refine (kUT _ (by first | assumption | (refine Cur.drew ?_; assumption))).mono ?_; rintro e y8 ⟨rfl, i8⟩)
                  | (go_at_call 21; with_reducible refine (kTT _ (by first | assumption | (refine Cur.drew ?_; assumption))).mono ?_; rintro e y9 ⟨rfl, i9⟩)))
          | fail
        go_wp2
        go_ret
        exact ⟨rfl, blw.trans (Below.mono i9 hz6)⟩
      · have zp : decide (0 < p) = false := decide_eq_false hp
        by_cases hq : 0 < q
        · have zq : decide (0 < q) = true := decide_eq_true hq
          go_wp2_with fail
          first
            | (go_region_held_law (fun x => x.cell? ⟨x7, 0, none⟩ = some (.slice a1 n1 d1) ∧ x.cell? ⟨x7, 1, none⟩ = some (.int .i64 t.base) ∧ x.cell? ⟨x8, 0, none⟩ = some (.slice a2 n2 d2) ∧ x.cell? ⟨x8, 1, none⟩ = some (.int .i64 u.base) ∧ x.cell? ⟨x9, 0, none⟩ = some (.slice a3 n3 d3) ∧ x.cell? ⟨x9, 1, none⟩ = some (.int .i64 v.base) ∧ x.cell? ⟨N, 0, none⟩ = some (.slice ta tn tc) ∧ x.cell? ⟨N, 1, none⟩ = some (.int .i64 t.base) ∧ x.cell? ⟨N + 1, 0, none⟩ = some (.slice ua un uc) ∧ x.cell? ⟨N + 1, 1, none⟩ = some (.int .i64 u.base))
                  (first | exact hL _ (by first | assumption | (refine Cur.drew ?_; assumption)))
                  (first
                    | (go_at_call 9; refine (k9 _ (by first | assumption | (refine Cur.drew ?_; assumption))).mono ?_; rintro e y4 ⟨rfl, i4⟩)
                    | (go_at_call 22; refine (k22 _ (by first | assumption | (refine Cur.drew ?_; assumption))).mono ?_; rintro e y5 ⟨rfl, i5⟩)
                    | (go_at_call 19; refine (k19 _ (by first | assumption | (refine Cur.drew ?_; assumption))).mono ?_; rintro e y6 ⟨rfl, i6⟩)
                    | (go_at_call 23; refine (k23 _ (by first | assumption | (refine Cur.drew ?_; assumption))).mono ?_; rintro e y7 ⟨rfl, i7⟩)
                    | (go_at_call 21; with_reducible refine (kUT _ (by first | assumption | (refine Cur.drew ?_; assumption))).mono ?_; rintro e y8 ⟨rfl, i8⟩)
                    | (go_at_call 21; with_reducible refine (kTT _ (by first | assumption | (refine Cur.drew ?_; assumption))).mono ?_; rintro e y9 ⟨rfl, i9⟩)))
            | fail
          go_wp2
          go_ret
          exact ⟨rfl, blw.trans (Below.mono i9 hz6)⟩
        · have zq : decide (0 < q) = false := decide_eq_false hq
          have hr : r ≤ 0 := HT.out (by omega) (by omega)
          have zr : decide (r ≤ 0) = true := decide_eq_true hr
          go_wp2_with fail
          first
            | (go_region_held_law (fun x => x.cell? ⟨x7, 0, none⟩ = some (.slice a1 n1 d1) ∧ x.cell? ⟨x7, 1, none⟩ = some (.int .i64 t.base) ∧ x.cell? ⟨x8, 0, none⟩ = some (.slice a2 n2 d2) ∧ x.cell? ⟨x8, 1, none⟩ = some (.int .i64 u.base) ∧ x.cell? ⟨x9, 0, none⟩ = some (.slice a3 n3 d3) ∧ x.cell? ⟨x9, 1, none⟩ = some (.int .i64 v.base) ∧ x.cell? ⟨N, 0, none⟩ = some (.slice ta tn tc) ∧ x.cell? ⟨N, 1, none⟩ = some (.int .i64 t.base) ∧ x.cell? ⟨N + 1, 0, none⟩ = some (.slice ua un uc) ∧ x.cell? ⟨N + 1, 1, none⟩ = some (.int .i64 u.base))
                  (first | exact hL _ (by first | assumption | (refine Cur.drew ?_; assumption)))
                  (first
                    | (go_at_call 9; refine (k9 _ (by first | assumption | (refine Cur.drew ?_; assumption))).mono ?_; rintro e y4 ⟨rfl, i4⟩)
                    | (go_at_call 22; refine (k22 _ (by first | assumption | (refine Cur.drew ?_; assumption))).mono ?_; rintro e y5 ⟨rfl, i5⟩)
                    | (go_at_call 19; refine (k19 _ (by first | assumption | (refine Cur.drew ?_; assumption))).mono ?_; rintro e y6 ⟨rfl, i6⟩)
                    | (go_at_call 23; refine (k23 _ (by first | assumption | (refine Cur.drew ?_; assumption))).mono ?_; rintro e y7 ⟨rfl, i7⟩)
                    | (go_at_call 21; with_reducible refine (kUT _ (by first | assumption | (refine Cur.drew ?_; assumption))).mono ?_; rintro e y8 ⟨rfl, i8⟩)
                    | (go_at_call 21; with_reducible refine (kTT _ (by first | assumption | (refine Cur.drew ?_; assumption))).mono ?_; rintro e y9 ⟨rfl, i9⟩)))
            | fail
          go_wp2
          go_ret
          exact ⟨rfl, blw.trans (Below.mono i9 hz6)⟩

end Go.Proofs.Ythcncdihgghbjaa
