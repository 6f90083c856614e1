/-
  KindMakes comes out true: the walk.
-/
import Derived.Test.YthcncdihgghbjaaTwo
namespace Go.Proofs.Ythcncdihgghbjaa
open Go Go.RowKit Go.Shelf

def actM (N : Nat) (ta : Option Addr) (tn tc : Nat) (tb : Int) (la : Option Addr) (lc ln mm : Nat) (n : Int) (ma : Option Addr) (mc : Nat) (s8 s9 s31 s32 s33 s34 s35 s36 s37 s38 : Value) : Act :=
  { tmps := #[tv (.slice ta tn tc) tb, .slice la mm lc, .int .i64 n, ptr N, undef, undef, .bool false, .slice ma mm mc, s8, s9, undef, undef, undef, undef, .slice la ln lc, .slice la ln lc, .int .i64 ln, .int .i64 (min (ln : Int) 20), .slice la mm lc, tv (.slice ta tn tc) tb, .slice (some ⟨N + 1, 0, none⟩) 1 1, .bool true, .bool false, .bool false, .slice la mm lc, .bool true, .bool false, .bool false, undef, .slice la mm lc, .slice ma mm mc, s31, s32, s33, s34, s35, s36, s37, s38, undef, undef, undef, undef, undef, undef, undef, undef, undef, undef, undef, undef, undef, undef, undef, undef, undef, undef, undef, undef, undef, undef, undef, undef, undef, undef, undef, undef, undef, undef, undef, undef, undef, undef, undef, undef, undef, undef, undef, undef, undef, undef, undef, undef, undef, undef, undef, undef, undef, undef, undef, undef, undef, undef, undef, undef, undef, undef, undef, undef, undef, undef, undef, undef, undef, undef, undef, undef, undef, undef, undef, undef], defers := [] }

theorem sizeL_le (l : List Ty) (h : ∀ u ∈ l, u.size ≤ 100) : sizeL l ≤ 100 * l.length := by
  induction l with
  | nil => simp [sizeL]
  | cons a l ih =>
    have h1 := h a (by simp)
    have h2 := ih fun u hu => h u (by simp [hu])
    simp only [sizeL, List.length_cons]
    omega

theorem mk_size_le {ts : List Ty} {b : Int} (h : sizeL ts ≤ 3000) : (Ty.mk ts b).size ≤ 1000000 := by
  have e := (Ty.mk ts b).size_eq
  rw [show (Ty.mk ts b).args = ts from rfl] at e
  omega
theorem k20_any (wB : World) (ts : List Ty) (b : Int) (s : Value) (hsz : sizeL ts ≤ 3000) (hh : Holds wB okT ts s) : ∀ cur : World, Cur wB cur → Calls Try.prog 20 #[tv s b] cur fun e w' => ∃ v, e = .returned (tv v b) ∧ Holds w' okT ts v ∧ Cur wB w' := fun cur hc =>
  (Of_calls (.mk ts b) okT s cur (hc.holds hh) (mk_size_le hsz)).mono fun _ _ ⟨v, h1, h2, h3⟩ => ⟨v, h1, h2.t, hc.then h3⟩
theorem k19_any (wB : World) (ts : List Ty) (b : Int) (hsz : sizeL ts ≤ 3000) : ∀ (cur : World) (v v' : Value), Cur wB cur → Holds cur okT ts v → Holds cur okT ts v' → Calls Try.prog 19 #[tv v b, tv v' b] cur fun e w' => e = .returned (.bool true) ∧ Cur wB w' := fun cur v v' hc hv hv' => by
  have h := Calls.cur hc (Same_calls (.mk ts b) (.mk ts b) okT okT v v' cur hv hv' (mk_size_le hsz))
  rwa [Ty.same_self] at h
theorem k29_any (wB : World) (ts us : List Ty) (b : Int) (s s' : Value) (hh : Holds wB okT ts s) (hh' : Holds wB okT us s') (hsz : ts.length + us.length ≤ 1000000) : ∀ (cur : World) (ls : List Ty) (v : Value), Cur wB cur → Holds cur okT ls v → Calls Try.prog 29 #[tv s b, s'] cur fun e w' => ∃ x, e = .returned (tv x b) ∧ Holds w' okT (us ++ ts) x ∧ Holds w' okT ls v ∧ Cur wB w' := fun cur _ _ hc hv =>
  (refArrow_calls (.mk ts b) us okT s s' cur (hc.holds hh) (hc.holds hh') hsz).mono fun _ _ ⟨x, h1, h2, h3⟩ => ⟨x, h1, h2.t, hv.bel h3, hc.then h3⟩
theorem k28_any (wB : World) (t : Ty) (k : Nat) (s : Value) (hh : Holds wB okT t.args s) (hk : k ≤ t.args.length) (hsz : t.args.length ≤ 1000000) : ∀ (cur : World) (ls : List Ty) (v : Value), Cur wB cur → Holds cur okT ls v → Calls Try.prog 28 #[tv s t.base, .int .i64 (k : Int)] cur fun e w' => ∃ x, e = .returned (tv x t.base) ∧ Holds w' okT (t.args.drop k) x ∧ Holds w' okT ls v ∧ Cur wB w' := fun cur _ _ hc hv =>
  (refRest_calls t k okT s cur (hc.holds hh) hk hsz).mono fun _ _ ⟨x, h1, h2, h3⟩ => ⟨x, h1, h2, hv.bel h3, hc.then h3⟩

set_option maxRecDepth 100000 in
set_option maxHeartbeats 6400000 in
theorem Makes_calls (t : Ty) (us0 : List Ty) (n : Int) (sl sl' : Value) (w : World) (hh : Holds w okT t.args sl) (hh' : Holds w okT us0 sl') (hlen : us0.length ≤ 9223372036854775807) :
    Calls Try.prog 5 #[tv sl t.base, sl', .int .i64 n] w fun e w' => e = .returned (.bool true) ∧ Below w.heap.size w w' := by
  obtain ⟨ta, tc, hs1, htc, _⟩ := hh.shape
  obtain ⟨tn, htn⟩ : ∃ tn, t.args.length = tn := ⟨_, rfl⟩
  rw [htn] at hs1 htc
  subst hs1
  have HTN : Hid (t.args.length = tn) := htn
  clear htn
  obtain ⟨la, lc, hs2, hlc, _⟩ := hh'.shape
  obtain ⟨ln, hln⟩ : ∃ ln, us0.length = ln := ⟨_, rfl⟩
  rw [hln] at hs2 hlc hlen
  subst hs2
  obtain ⟨mm, hmm⟩ : ∃ mm, min ln 20 = mm := ⟨_, rfl⟩
  have hmi : (min (ln : Int) 20).toNat = mm := by omega
  have y2 : min (ln : Int) 20 ≤ (lc : Int) := by omega
  have y3 : (0 : Int) ≤ min (ln : Int) 20 := by omega
  obtain ⟨us, hus⟩ : ∃ us, us0.take mm = us := ⟨_, rfl⟩
  have hul : us.length = mm := by rw [← hus, List.length_take, hln]; omega
  have hhu : Holds w okT us (.slice la mm lc) := by
    rw [← hus]
    exact hh'.take mm (by omega) lc (by omega) (fun e => by subst e; exact (hh'.isnil).2.1)
  have HUL : Hid (us.length = mm) := hul
  have hm20 : mm ≤ 20 := by omega
  clear hul hus hln hmm
  obtain ⟨N, hN⟩ : ∃ N, w.heap.size = N := ⟨_, rfl⟩
  rw [hN]
  obtain ⟨r1, hr1⟩ : ∃ r, fewB 100 70 t = r := ⟨_, rfl⟩
  have hfew1 := fun W s (hW : Holds W okT [t] s) => lawFew_calls [t] okT s W (by simp) hW
  rw [show [t].all (fewB 100 70) = r1 by rw [← hr1]; simp] at hfew1
  have HR1 : Hid (fewB 100 70 t = r1) := hr1
  obtain ⟨r2, hr2⟩ : ∃ r, us.all (fewB 100 70) = r := ⟨_, rfl⟩
  have hfew2 := fun W s (hW : Holds W okT us s) => lawFew_calls us okT s W (by rw [HUL.out]; omega) hW
  rw [hr2] at hfew2
  have HR2 : Hid (us.all (fewB 100 70) = r2) := hr2
  clear hr1 hr2
  go_enter Try.func5, Try.ntmps5
  go_wp2_with fail
  clear y2 y3 hmi
  generalize hw1 : w.alloc (.cells #[.slice ta tn tc, .int .i64 t.base] 24) = w1
  have b1 : Blk w1 N 24 #[.slice ta tn tc, .int .i64 t.base] := by rw [← hw1]; exact Blk.new' w N 24 _ hN
  have bl1 : Below N w w1 := by rw [← hw1]; exact (Below.refl N w).alloc (by omega) _
  have hz1 : w1.heap.size = N + 1 := by rw [← hw1]; simp [hN]
  have hbw : Below w.heap.size w w1 := by rw [hN]; exact bl1
  have k1 := hh.bel hbw
  have k2 := hhu.bel hbw
  have hz1' : N ≤ w1.heap.size := by omega
  clear hw1 hbw
  generalize hw2 : w1.alloc (.cells #[.slice ta tn tc, .int .i64 t.base] 24) = w2
  have hf2 : Holds w2 okT [t] (.slice (some ⟨N + 1, 0, none⟩) 1 1) := by
    rw [← hw2]
    exact holds_built w1 (N + 1) hz1 [(.slice ta tn tc, t)] 24 (fun p hp => by rw [List.mem_singleton.1 hp]; exact k1) 1 rfl _ rfl
  have hc2 : Cur w1 w2 := by rw [← hw2]; exact (Cur.refl w1).alloc _
  clear hw2 hz1
  refine (hfew1 _ _ hf2).mono ?_
  rintro e w3 ⟨rfl, hb3⟩
  have hc3 := hc2.then hb3
  clear hc2 hb3 hf2 hfew1
  have c0 := b1.cell 0
  have c1 := b1.cell 1
  cases r1
  · go_wp2_with fail
    refine (known_calls _).mono ?_
    rintro e w4 ⟨rfl, hb4⟩
    go_wp2
    go_ret
    exact ⟨rfl, bl1.trans (Below.mono (hc3.then hb4) hz1')⟩
  · go_wp2_with fail
    refine (hfew2 _ _ (hc3.holds k2)).mono ?_
    rintro e w4 ⟨rfl, hb4⟩
    have hc4 := hc3.then hb4
    clear hc3 hb4 hfew2
    cases r2
    · go_wp2_with fail
      refine (known_calls _).mono ?_
      rintro e w5 ⟨rfl, hb5⟩
      go_wp2
      go_ret
      exact ⟨rfl, bl1.trans (Below.mono (hc4.then hb5) hz1')⟩
    · obtain ⟨s1, _⟩ := size_of_few HR1.out
      have hall : ∀ u ∈ us, u.size ≤ 100 := fun u hu => (size_of_few (List.all_eq_true.1 HR2.out u hu)).1
      go_wp2_with fail
      refine (all_calls us okT _ _ (hc4.holds k2) (by rw [HUL.out]; omega) (fun u hu => by have := hall u hu; omega)).mono ?_
      rintro e w5 ⟨v5, rfl, h5, hb5⟩
      have hc5 := hc4.then hb5
      obtain ⟨ma, mc, hv5, _⟩ := h5.shape
      rw [HUL.out] at hv5
      subst hv5
      have hm5 := h5.t
      clear h5 hb5 hc4
      have hcells : ∀ x, Cur w5 x → x.cell? ⟨N, 0, none⟩ = some (.slice ta tn tc) ∧ x.cell? ⟨N, 1, none⟩ = some (.int .i64 t.base) := fun x hx => ⟨hx.cell (hc5.cell c0), hx.cell (hc5.cell c1)⟩
      have k1 := hc5.holds k1
      have k2 := hc5.holds k2
      have hsL : sizeL us ≤ 2000 := by have := sizeL_le us hall; rw [HUL.out] at this; omega
      have hsT : sizeL t.args ≤ 100 := by have := t.size_eq; omega
      have g25 : ∀ cur : World, Cur w5 cur → Calls Try.prog 25 #[.int .i64 t.base, .slice ma mm mc] cur fun e w' => ∃ x, e = .returned (tv x t.base) ∧ Holds w' (fun b => cur.heap.size ≤ b) us x ∧ Below cur.heap.size cur w' := fun cur hc =>
        kOf_calls t.base us okT _ cur (hc.holds hm5) (by omega)
      have g10 : ∀ cur : World, Cur w5 cur → Calls Try.prog 10 #[tv (.slice ta tn tc) t.base] cur fun e w' => ∃ x, e = .returned (tv x t.base) ∧ Holds w' (fun b => cur.heap.size ≤ b) t.args x ∧ Below cur.heap.size cur w' := fun cur hc =>
        To_calls t okT _ cur (hc.holds k1) (by omega)
      have g26 : ∀ (cur : World) (x : Value), Cur w5 cur → Holds cur okT t.args x → Calls Try.prog 26 #[tv x t.base, .slice ma mm mc] cur fun e w' => ∃ y, e = .returned (tv y t.base) ∧ Holds w' (fun b => cur.heap.size ≤ b) (us ++ t.args) y ∧ Below cur.heap.size cur w' := fun cur x hc hx =>
        Arrow_calls t us okT x _ cur hx (hc.holds hm5) (by omega)
      have bl5 : Below N w w5 := bl1.trans (Below.mono hc5 hz1')
      have hz5 : N ≤ w5.heap.size := Nat.le_trans hz1' (Below.size hc5)
      clear hc5 bl1 hz1' c0 c1 b1
      go_wp2_with fail
      refine wp_region_any (by kernel_rfl) ?_
      refine wpAny_stage (fun listed a w => ∃ b0 b1 b2 b3 b4 b5 b6 b7 b8 b9 s8 s9 s31 s32 s33 s34 s35 s36 s37 s38, listed = #[b0, b1, b2, b3, b4, b5, b6, b7, b8, b9, false, false] ∧ a = actM N ta tn tc t.base la lc ln mm n ma mc s8 s9 s31 s32 s33 s34 s35 s36 s37 s38 ∧ S2 w5 t (.mk us t.base) (.mk (us ++ t.args) t.base) (.pointer (some ⟨N, 1, none⟩)) (.int .i64 t.base) (tv (.slice ta tn tc) t.base) (.slice ma mm mc) b0 b1 b2 b3 b4 b5 b6 b7 b8 b9 s8 s9 s31 s32 s33 s34 s35 s36 s37 s38 w)
        #[true, true, true, true, true, true, true, true, true, true, false, false] ?hfin ?hne ?hstep _ _ _ _ ?h0 rfl
      case h0 =>
        refine ⟨false, false, false, false, false, false, false, false, false, false, undef, undef, undef, undef, undef, undef, undef, undef, undef, undef, rfl, rfl, ?_⟩
        exact { cur := (Cur.refl w5).drew, l0 := (fun e => by cases e), l1 := (fun e => by cases e), l2 := (fun e => by cases e), c3 := (fun e => by cases e), l4 := (fun e => by cases e), c5 := (fun e => by cases e), l6 := (fun e => by cases e), c7 := (fun e => by cases e), a8 := (fun e => by cases e), a9 := (fun e => by cases e), n8 := fun _ => rfl, n9 := fun _ => rfl, d89 := (fun e => by cases e) }
      case hne =>
        rintro listed a w ⟨b0, b1, b2, b3, b4, b5, b6, b7, b8, b9, s8, s9, s31, s32, s33, s34, s35, s36, s37, s38, rfl, _, hst⟩ _hn
        clear hst
        revert b0 b1 b2 b3 b4 b5 b6 b7 b8 b9
        decide +kernel
      case hstep =>
        rintro listed a w ⟨b0, b1, b2, b3, b4, b5, b6, b7, b8, b9, s8, s9, s31, s32, s33, s34, s35, s36, s37, s38, rfl, rfl, hst⟩ hne i hi
        obtain ⟨hg, o, ho, hdep⟩ := mem_ready.1 hi
        have hi12 : i < 12 := by
          rcases Nat.lt_or_ge i 12 with h | h
          · exact h
          · rw [Array.getD_eq_getD_getElem?, Array.getElem?_eq_none (by simpa using h)] at hg; cases hg
        obtain ⟨r0, r1⟩ := hcells w hst.cur
        match i, hi12 with
        | 0, _ =>
          clear ho hdep hi hg
          refine wpOp_plain { dst := some 31, op := .fieldAddr 24 (.tmp 3) 1, type := 0, pos := "law.go:79", after := #[], guard := none } rfl rfl ?_
          intro K' hK'
          have hK3 := hK' (actM N ta tn tc t.base la lc ln mm n ma mc s8 s9 (.pointer (some ⟨N, 1, none⟩)) s32 s33 s34 s35 s36 s37 s38) w ⟨true, b1, b2, b3, b4, b5, b6, b7, b8, b9, s8, s9, _, s32, s33, s34, s35, s36, s37, s38, rfl, rfl, hst.s0⟩
          clear hK'
          unfold actM at *
          go_simp
          exact hK3
        | 1, _ =>
          have hop : o = { dst := some 32, op := .load 3 (.tmp 31), type := 3, pos := "law.go:79", after := #[{ on := 0, ground := .data }], guard := none } := (Option.some.inj ho).symm
          have e0 : b0 = true := hdep { on := 0, ground := .data } (by rw [hop]; simp) rfl
          obtain rfl := hst.l0 e0
          clear ho hi hg
          refine wpOp_plain { dst := some 32, op := .load 3 (.tmp 31), type := 3, pos := "law.go:79", after := #[{ on := 0, ground := .data }], guard := none } rfl rfl ?_
          intro K' hK'
          have hK3 := hK' (actM N ta tn tc t.base la lc ln mm n ma mc s8 s9 (.pointer (some ⟨N, 1, none⟩)) (.int .i64 t.base) s33 s34 s35 s36 s37 s38) w ⟨b0, true, b2, b3, b4, b5, b6, b7, b8, b9, s8, s9, _, _, s33, s34, s35, s36, s37, s38, rfl, rfl, hst.s1 e0⟩
          clear hK'
          unfold actM at *
          go_simp
          exact hK3
        | 2, _ =>
          clear ho hdep hi hg
          refine wpOp_plain { dst := some 33, op := .move (.tmp 7), type := 27, pos := "law.go:79", after := #[], guard := none } rfl rfl ?_
          intro K' hK'
          have hK3 := hK' (actM N ta tn tc t.base la lc ln mm n ma mc s8 s9 s31 s32 (.slice ma mm mc) s34 s35 s36 s37 s38) w ⟨b0, b1, true, b3, b4, b5, b6, b7, b8, b9, s8, s9, s31, s32, _, s34, s35, s36, s37, s38, rfl, rfl, hst.s2⟩
          clear hK'
          unfold actM at *
          go_simp
          exact hK3
        | 3, _ =>
          have hop : o = { dst := some 34, op := .call { callee := .value (.func 25), args := #[.tmp 32, .tmp 33], argTypes := #[3, 27] }, type := 29, pos := "law.go:79", after := #[{ on := 1, ground := .data }, { on := 2, ground := .data }], guard := none } := (Option.some.inj ho).symm
          have e1 : b1 = true := hdep { on := 1, ground := .data } (by rw [hop]; simp) rfl
          have e2 : b2 = true := hdep { on := 2, ground := .data } (by rw [hop]; simp) rfl
          obtain ⟨_, rfl⟩ := hst.l1 e1
          obtain rfl := hst.l2 e2
          clear ho hi hg
          refine wpOp_plain { dst := some 34, op := .call { callee := .value (.func 25), args := #[.tmp 32, .tmp 33], argTypes := #[3, 27] }, type := 29, pos := "law.go:79", after := #[{ on := 1, ground := .data }, { on := 2, ground := .data }], guard := none } rfl rfl ?_
          intro K' hK'
          have hcall := g25 w hst.cur
          have hK3 := fun (w' : World) (x : Value) (hx : Holds w' (fun b => w.heap.size ≤ b) us x) (hb : Below w.heap.size w w') => hK' (actM N ta tn tc t.base la lc ln mm n ma mc s8 s9 s31 (.int .i64 t.base) (.slice ma mm mc) (tv x t.base) s35 s36 s37 s38) w' ⟨b0, b1, b2, true, b4, b5, b6, b7, b8, b9, s8, s9, s31, _, _, _, s35, s36, s37, s38, rfl, rfl, hst.k3 e1 e2 hb rfl hx⟩
          clear hK'
          unfold actM at *
          go_simp
          go_at_call 25
          refine hcall.mono ?_
          rintro e w' ⟨x, rfl, hx, hb⟩
          exact hK3 w' x hx hb
        | 4, _ =>
          clear ho hdep hi hg
          refine wpOp_plain { dst := some 35, op := .load 24 (.tmp 3), type := 24, pos := "law.go:79", after := #[], guard := none } rfl rfl ?_
          intro K' hK'
          have hK3 := hK' (actM N ta tn tc t.base la lc ln mm n ma mc s8 s9 s31 s32 s33 s34 (tv (.slice ta tn tc) t.base) s36 s37 s38) w ⟨b0, b1, b2, b3, true, b5, b6, b7, b8, b9, s8, s9, s31, s32, s33, s34, _, s36, s37, s38, rfl, rfl, hst.s4⟩
          clear hK'
          unfold actM at *
          go_simp
          exact hK3
        | 5, _ =>
          have hop : o = { dst := some 36, op := .call { callee := .value (.func 10), args := #[.tmp 35], argTypes := #[24] }, type := 29, pos := "law.go:79", after := #[{ on := 4, ground := .data }, { on := 3, ground := .chain }], guard := none } := (Option.some.inj ho).symm
          have e4 : b4 = true := hdep { on := 4, ground := .data } (by rw [hop]; simp) rfl
          have e3 : b3 = true := hdep { on := 3, ground := .chain } (by rw [hop]; simp) rfl
          obtain rfl := hst.l4 e4
          clear ho hi hg
          refine wpOp_plain { dst := some 36, op := .call { callee := .value (.func 10), args := #[.tmp 35], argTypes := #[24] }, type := 29, pos := "law.go:79", after := #[{ on := 4, ground := .data }, { on := 3, ground := .chain }], guard := none } rfl rfl ?_
          intro K' hK'
          have hcall := g10 w hst.cur
          have hK3 := fun (w' : World) (x : Value) (hx : Holds w' (fun b => w.heap.size ≤ b) t.args x) (hb : Below w.heap.size w w') => hK' (actM N ta tn tc t.base la lc ln mm n ma mc s8 s9 s31 s32 s33 s34 (tv (.slice ta tn tc) t.base) (tv x t.base) s37 s38) w' ⟨b0, b1, b2, b3, b4, true, b6, b7, b8, b9, s8, s9, s31, s32, s33, s34, _, _, s37, s38, rfl, rfl, hst.k5 e4 e3 hb hx⟩
          clear hK'
          unfold actM at *
          go_simp
          go_at_call 10
          refine hcall.mono ?_
          rintro e w' ⟨x, rfl, hx, hb⟩
          exact hK3 w' x hx hb
        | 6, _ =>
          clear ho hdep hi hg
          refine wpOp_plain { dst := some 37, op := .move (.tmp 7), type := 27, pos := "law.go:79", after := #[], guard := none } rfl rfl ?_
          intro K' hK'
          have hK3 := hK' (actM N ta tn tc t.base la lc ln mm n ma mc s8 s9 s31 s32 s33 s34 s35 s36 (.slice ma mm mc) s38) w ⟨b0, b1, b2, b3, b4, b5, true, b7, b8, b9, s8, s9, s31, s32, s33, s34, s35, s36, _, s38, rfl, rfl, hst.s6⟩
          clear hK'
          unfold actM at *
          go_simp
          exact hK3
        | 7, _ =>
          have hop : o = { dst := some 38, op := .call { callee := .value (.func 26), args := #[.tmp 36, .tmp 37], argTypes := #[29, 27] }, type := 29, pos := "law.go:79", after := #[{ on := 5, ground := .data }, { on := 6, ground := .data }, { on := 5, ground := .chain }], guard := none } := (Option.some.inj ho).symm
          have e5 : b5 = true := hdep { on := 5, ground := .data } (by rw [hop]; simp) rfl
          have e6 : b6 = true := hdep { on := 6, ground := .data } (by rw [hop]; simp) rfl
          obtain ⟨_, _, x1, x2, x3, rfl, hx0⟩ := hst.c5 e5
          obtain rfl := hst.l6 e6
          clear ho hi hg
          refine wpOp_plain { dst := some 38, op := .call { callee := .value (.func 26), args := #[.tmp 36, .tmp 37], argTypes := #[29, 27] }, type := 29, pos := "law.go:79", after := #[{ on := 5, ground := .data }, { on := 6, ground := .data }, { on := 5, ground := .chain }], guard := none } rfl rfl ?_
          intro K' hK'
          have hcall := g26 w _ hst.cur hx0
          have hK3 := fun (w' : World) (x : Value) (hx : Holds w' (fun b => w.heap.size ≤ b) (us ++ t.args) x) (hb : Below w.heap.size w w') => hK' (actM N ta tn tc t.base la lc ln mm n ma mc s8 s9 s31 s32 s33 s34 s35 (tv (.slice x1 x2 x3) t.base) (.slice ma mm mc) (tv x t.base)) w' ⟨b0, b1, b2, b3, b4, b5, b6, true, b8, b9, s8, s9, s31, s32, s33, s34, s35, _, _, _, rfl, rfl, hst.k7 e5 e6 hb rfl hx⟩
          clear hK'
          unfold actM at *
          go_simp
          go_at_call 26
          refine hcall.mono ?_
          rintro e w' ⟨x, rfl, hx, hb⟩
          exact hK3 w' x hx hb
        | 8, _ =>
          clear ho hdep hi hg
          refine wpOp_plain { dst := some 8, op := .alloc 29, type := 0, pos := "law.go:79", after := #[], guard := none } rfl rfl ?_
          intro K' hK'
          have hK3 := hK' (actM N ta tn tc t.base la lc ln mm n ma mc (ptr w.heap.size) s9 s31 s32 s33 s34 s35 s36 s37 s38) (w.alloc (.cells #[.slice none 0 0, .int .i64 0] 29)) ⟨b0, b1, b2, b3, b4, b5, b6, b7, true, b9, _, s9, s31, s32, s33, s34, s35, s36, s37, s38, rfl, rfl, hst.alloc8⟩
          clear hK'
          unfold actM at *
          go_simp
          exact hK3
        | 9, _ =>
          clear ho hdep hi hg
          refine wpOp_plain { dst := some 9, op := .alloc 29, type := 0, pos := "law.go:79", after := #[], guard := none } rfl rfl ?_
          intro K' hK'
          have hK3 := hK' (actM N ta tn tc t.base la lc ln mm n ma mc s8 (ptr w.heap.size) s31 s32 s33 s34 s35 s36 s37 s38) (w.alloc (.cells #[.slice none 0 0, .int .i64 0] 29)) ⟨b0, b1, b2, b3, b4, b5, b6, b7, b8, true, s8, _, s31, s32, s33, s34, s35, s36, s37, s38, rfl, rfl, hst.alloc9⟩
          clear hK'
          unfold actM at *
          go_simp
          exact hK3
        | 10, _ =>
          exfalso
          have hd := hdep
          rw [← Option.some.inj ho] at hd
          have e8 : b8 = true := hd { on := 8, ground := .data } (by simp) rfl
          have e9 : b9 = true := hd { on := 9, ground := .phase } (by simp) rfl
          have e7 : b7 = true := hd { on := 7, ground := .chain } (by simp) rfl
          obtain ⟨e5, e6, _⟩ := hst.c7 e7
          obtain ⟨e4, e3, _⟩ := hst.c5 e5
          obtain ⟨e1, e2, _⟩ := hst.c3 e3
          obtain ⟨e0, _⟩ := hst.l1 e1
          exact hne (by rw [e0, e1, e2, e3, e4, e5, e6, e7, e8, e9])
        | 11, _ =>
          exfalso
          have hd := hdep
          rw [← Option.some.inj ho] at hd
          have e9 : false = true := hd { on := 10, ground := .chain } (by simp) rfl
          cases e9
      case hfin =>
        rintro a wz ⟨b0, b1, b2, b3, b4, b5, b6, b7, b8, b9, s8, s9, s31, s32, s33, s34, s35, s36, s37, s38, hl, rfl, hst⟩
        obtain ⟨rfl, rfl, rfl, rfl, rfl, rfl, rfl, rfl, rfl, rfl⟩ : b0 = true ∧ b1 = true ∧ b2 = true ∧ b3 = true ∧ b4 = true ∧ b5 = true ∧ b6 = true ∧ b7 = true ∧ b8 = true ∧ b9 = true := by
          simp at hl
          simp [hl]
        obtain ⟨_, _, a1, n1, d1, e34, h1⟩ := hst.c3 rfl
        replace e34 : s34 = tv (.slice a1 n1 d1) t.base := e34
        subst e34
        replace h1 : Holds wz (Out2 s8 s9) us (.slice a1 n1 d1) := h1
        obtain ⟨_, _, a2, n2, d2, rfl, h2⟩ := hst.c5 rfl
        obtain ⟨_, _, a3, n3, d3, e38, h3⟩ := hst.c7 rfl
        replace e38 : s38 = tv (.slice a3 n3 d3) t.base := e38
        subst e38
        replace h3 : Holds wz (Out2 s8 s9) (us ++ t.args) (.slice a3 n3 d3) := h3
        obtain ⟨x8, rfl, b8, m8⟩ := hst.a8 rfl
        obtain ⟨x9, rfl, b9, m9⟩ := hst.a9 rfl
        have n89 : x8 ≠ x9 := fun e => hst.d89 rfl rfl (by rw [e])
        obtain rfl := hst.l0 rfl
        obtain ⟨_, rfl⟩ := hst.l1 rfl
        obtain rfl := hst.l2 rfl
        obtain rfl := hst.l4 rfl
        obtain rfl := hst.l6 rfl
        have hcw := hst.cur
        clear hl hst g25 g10 g26 h2
        unfold actM
        show wpAny _ _ _ _ 2 _ _ _
        refine wpAny_one 10 { dst := none, op := .store 29 (.tmp 8) (.tmp 34), type := 0, pos := "law.go:79", after := #[{ on := 8, ground := .data }, { on := 3, ground := .data }, { on := 7, ground := .chain }, { on := 0, ground := .phase }, { on := 1, ground := .phase }, { on := 2, ground := .phase }, { on := 3, ground := .phase }, { on := 4, ground := .textOnly .lateStores }, { on := 5, ground := .textOnly .lateStoresUnsure }, { on := 6, ground := .textOnly .lateStores }, { on := 7, ground := .textOnly .lateStoresUnsure }, { on := 8, ground := .phase }, { on := 9, ground := .phase }], guard := none } (by decide +kernel) rfl rfl ?_
        intro K' hK'
        have f0 := b8.cell 0
        have f1 := b8.cell 1
        have f2 := b8.frozen 0
        have f3 := b8.frozen 1
        go_simp
        have B8 := (b8.set 0 (.slice a1 n1 d1)).set 1 (.int .i64 t.base)
        have b9' := (b9.other (B' := x8) (n89.symm) 0 (.slice a1 n1 d1)).other (B' := x8) (n89.symm) 1 (.int .i64 t.base)
        have h1' := holds_set2 (g := x8) h1 (fun b _ ho => ⟨fun e => ho.1 (by rw [e]), ho⟩) 0 1 (.slice a1 n1 d1) (.int .i64 t.base)
        have h3' := holds_set2 (g := x8) h3 (fun b _ ho => ⟨fun e => ho.1 (by rw [e]), ho⟩) 0 1 (.slice a1 n1 d1) (.int .i64 t.base)
        have hc' : Below w5.heap.size w5 ((wz.setCell ⟨x8, 0, none⟩ (.slice a1 n1 d1)).setCell ⟨x8, 1, none⟩ (.int .i64 t.base)) := bset (bset hcw m8 _) m8 _
        clear b8 b9 h1 h3 hcw f0 f1 f2 f3
        generalize (wz.setCell ⟨x8, 0, none⟩ (.slice a1 n1 d1)).setCell ⟨x8, 1, none⟩ (.int .i64 t.base) = w6 at *
        refine hK' _ _ ?_
        clear hK'
        have b9 := b9'
        clear b9'
        have h1 := h1'
        clear h1'
        have h3 := h3'
        clear h3'
        have hcw : Cur w5 w6 := hc'
        clear hc'
        refine wpAny_one 11 { dst := none, op := .store 29 (.tmp 9) (.tmp 38), type := 0, pos := "law.go:79", after := #[{ on := 9, ground := .data }, { on := 7, ground := .data }, { on := 10, ground := .chain }, { on := 0, ground := .phase }, { on := 1, ground := .phase }, { on := 2, ground := .phase }, { on := 3, ground := .phase }, { on := 4, ground := .phase }, { on := 5, ground := .phase }, { on := 6, ground := .phase }, { on := 7, ground := .phase }, { on := 8, ground := .phase }, { on := 9, ground := .phase }, { on := 10, ground := .phase }], guard := none } (by decide +kernel) rfl rfl ?_
        intro K2 hK2
        have f0 := b9.cell 0
        have f1 := b9.cell 1
        have f2 := b9.frozen 0
        have f3 := b9.frozen 1
        go_simp
        have B9 := (b9.set 0 (.slice a3 n3 d3)).set 1 (.int .i64 t.base)
        have B8' := (B8.other (B' := x9) (n89) 0 (.slice a3 n3 d3)).other (B' := x9) (n89) 1 (.int .i64 t.base)
        have h1' := holds_set2 (g := x9) h1 (fun b _ ho => ⟨fun e => ho.2 (by rw [e]), ho⟩) 0 1 (.slice a3 n3 d3) (.int .i64 t.base)
        have h3' := holds_set2 (g := x9) h3 (fun b _ ho => ⟨fun e => ho.2 (by rw [e]), ho⟩) 0 1 (.slice a3 n3 d3) (.int .i64 t.base)
        have hc' : Below w5.heap.size w5 ((w6.setCell ⟨x9, 0, none⟩ (.slice a3 n3 d3)).setCell ⟨x9, 1, none⟩ (.int .i64 t.base)) := bset (bset hcw m9 _) m9 _
        clear b9 B8 h1 h3 hcw f0 f1 f2 f3
        generalize (w6.setCell ⟨x9, 0, none⟩ (.slice a3 n3 d3)).setCell ⟨x9, 1, none⟩ (.int .i64 t.base) = w7 at *
        refine hK2 _ _ ?_
        clear hK2
        have B8 := B8'
        clear B8'
        have h1 : Holds w7 okT us (.slice a1 n1 d1) := h1'.t
        clear h1'
        have h3 : Holds w7 okT (us ++ t.args) (.slice a3 n3 d3) := h3'.t
        clear h3'
        have hc7 : Cur w5 w7 := hc'
        clear hc'
        refine ⟨by decide +kernel, ?_⟩
        have q1 := hc7.holds k1
        have q2 := hc7.holds k2
        have hz7 : N ≤ w7.heap.size := Nat.le_trans hz5 (Below.size hc7)
        have bl7 : Below N w w7 := bl5.trans (Below.mono hc7 hz5)
        have G0 := B8.cell 0
        have G1 := B8.cell 1
        have G2 := B9.cell 0
        have G3 := B9.cell 1
        obtain ⟨J0, J1⟩ := hcells _ hc7
        have nl9 : x9 < w7.heap.size := B9.lt
        have nl8 : x8 < w7.heap.size := B8.lt
        have nlN : N < w7.heap.size := by omega
        have hL : ∀ x : World, Cur w7 x → x.cell? ⟨x8, 0, none⟩ = some (.slice a1 n1 d1) ∧ x.cell? ⟨x8, 1, none⟩ = some (.int .i64 t.base) ∧ x.cell? ⟨x9, 0, none⟩ = some (.slice a3 n3 d3) ∧ x.cell? ⟨x9, 1, none⟩ = some (.int .i64 t.base) ∧ x.cell? ⟨N, 0, none⟩ = some (.slice ta tn tc) ∧ x.cell? ⟨N, 1, none⟩ = some (.int .i64 t.base) := fun x hx => ⟨hx.cell G0, hx.cell G1, hx.cell G2, hx.cell G3, hx.cell J0, hx.cell J1⟩
        have e1 := h1
        have e3 := h3
        obtain ⟨g0, g1, g2, g3, j0, j1⟩ := hL _ (Cur.refl w7)
        clear G0 G1 G2 G3 J0 J1 h1 h3 B8 B9 hcells k1 k2 hm5 hc7 m8 m9
        go_wp2_with fail
        refine (To_calls t okT _ _ q1 (by omega)).mono ?_
        rintro e w8 ⟨x, rfl, hx, hb8⟩
        have hc8 := (Cur.refl w7).then hb8
        clear hb8
        have hml : (Ty.mk (us ++ t.args) t.base).size ≤ 1000000 := mk_size_le (by rw [sizeL_append]; omega)
        have hlt : t.args.length ≤ 100 := by have := sizeL_length t.args; omega
        by_cases h0 : n < 0
        · skip
          have hn : n < 0 ∨ (tn : Int) < n := .inl h0
          have zn : decide (n < 0) = true := decide_eq_true h0
          go_wp2_with fail
          refine (Rest_no t n _ _ _ hx (by rw [HTN.out]; exact hn)).mono ?_
          rintro e w9 ⟨rfl, hb9⟩
          have hc9 := hc8.then hb9
          clear hb9 hc8 hx
          obtain ⟨M, hM⟩ : ∃ M, w9.heap.size = M := ⟨_, rfl⟩
          have hcA := hc9.alloc (.cells #[.slice none 0 0, .int .i64 0] 29)
          obtain ⟨i0, i1, i2, i3, i4, i5⟩ := hL _ hcA
          have bA := Blk.new' w9 M 29 #[.slice none 0 0, .int .i64 0] hM
          have hrest : Calls Try.prog 27 #[tv (.slice a3 n3 d3) t.base, .int .i64 (mm : Int)] (w9.alloc (.cells #[.slice none 0 0, .int .i64 0] 29)) fun e w' => ∃ va vn vc, e = .returned (.tuple #[tv (.slice va vn vc) t.base, .int .i64 0]) ∧ Holds w' okT t.args (.slice va vn vc) ∧ Below (w9.alloc (.cells #[.slice none 0 0, .int .i64 0] 29)).heap.size (w9.alloc (.cells #[.slice none 0 0, .int .i64 0] 29)) w' := by
            refine (Rest_yes (.mk (us ++ t.args) t.base) mm okT _ _ (hcA.holds e3) (by show mm ≤ (us ++ t.args).length; rw [List.length_append, HUL.out]; omega) hml).mono ?_
            rintro e w' ⟨v, h1, h2, h3⟩
            obtain ⟨a, c, hv, _⟩ := h2.shape
            subst hv
            refine ⟨_, _, _, h1, ?_, h3⟩
            rwa [show (Ty.mk (us ++ t.args) t.base).args.drop mm = t.args from List.drop_left' HUL.out] at h2 ⊢
          go_wp2_with fail
          refine hrest.mono ?_
          rintro e w10 ⟨va, vn, vc, rfl, hv, hb10⟩
          have hc10 := hcA.then hb10
          have bA' := bA.below hb10 bA.lt
          clear hrest hcA i0 i1 i2 i3 i4 i5 bA
          clear hb10 hc9 hM
          obtain ⟨M2, hM2⟩ : ∃ M2, w10.heap.size = M2 := ⟨_, rfl⟩
          have bB := Blk.new' w10 M2 29 #[.slice va vn vc, .int .i64 t.base] hM2
          have hcB := hc10.alloc (.cells #[.slice va vn vc, .int .i64 t.base] 29)
          have hvB := hv.alloc (.cells #[.slice va vn vc, .int .i64 t.base] 29)
          have bAB := bA'.alloc (.cells #[.slice va vn vc, .int .i64 t.base] 29)
          clear bA' hv hc10
          obtain ⟨i0, i1, i2, i3, i4, i5⟩ := hL _ hcB
          have z0 := bAB.cell 0
          have z1 := bAB.cell 1
          have z2 := bB.cell 0
          have z3 := bB.cell 1
          go_wp2_with fail
          generalize w10.alloc (.cells #[.slice va vn vc, .int .i64 t.base] 29) = wB at *
          refine (k20_any wB [] 0 _ (by decide) (Holds.nil _ _ none 0 (fun _ => rfl)) _ (Cur.refl wB)).mono ?_
          rintro e w12 ⟨v12, rfl, hv12, hc12⟩
          go_wp2_with fail
          refine (k19_any wB [] 0 (by decide) _ _ _ hc12 hv12 (Holds.nil _ _ none 0 (fun _ => rfl))).mono ?_
          rintro e w13 ⟨rfl, hc13⟩
          clear hc12 hv12 w12
          have hcW : Cur w7 w13 := hcB.trans (Below.mono hc13 (Below.size hcB))
          have hvW := hc13.holds hvB
          obtain ⟨i0, i1, i2, i3, i4, i5⟩ := hL _ hcW
          have z2 := hc13.cell z2
          have z3 := hc13.cell z3
          clear hvB bAB bB z0 z1 hcB hM2 hc13
          go_wp2_with fail
          have p1 := hcW.holds e1
          have p3 := hcW.holds e3
          have pt := hcW.holds q1
          have pu := hcW.holds q2
          have hzB : N ≤ w13.heap.size := Nat.le_trans hz7 (Below.size hcW)
          have blB : Below N w w13 := bl7.trans (Below.mono hcW hz7)
          have k9 := fun (cur : World) (hc : Cur w13 cur) => Calls.cur hc (known_calls cur)
          have k20q := k20_any w13 us t.base _ (by omega) p1
          have k29q := k29_any w13 [] us t.base (.slice none 0 0) _ (Holds.nil _ _ none 0 (fun _ => rfl)) pu (by rw [HUL.out]; simp; omega)
          rw [List.append_nil] at k29q
          have k19q := k19_any w13 us t.base (by omega)
          have k20r := k20_any w13 (us ++ t.args) t.base _ (by rw [sizeL_append]; omega) p3
          have k29r := k29_any w13 t.args us t.base _ _ pt pu (by rw [HUL.out]; omega)
          have k19r := k19_any w13 (us ++ t.args) t.base (by rw [sizeL_append]; omega)
          have k20b := k20_any w13 t.args t.base _ (by omega) hvW
          have k19b := fun (cur : World) (v : Value) (hc : Cur w13 cur) (hv : Holds cur okT t.args v) => k19_any w13 t.args t.base (by omega) cur v _ hc hv (hc.holds pt)
          have hM : ∀ x : World, Cur w13 x → x.cell? ⟨x8, 0, none⟩ = some (.slice a1 n1 d1) ∧ x.cell? ⟨x8, 1, none⟩ = some (.int .i64 t.base) ∧ x.cell? ⟨x9, 0, none⟩ = some (.slice a3 n3 d3) ∧ x.cell? ⟨x9, 1, none⟩ = some (.int .i64 t.base) ∧ x.cell? ⟨N, 0, none⟩ = some (.slice ta tn tc) ∧ x.cell? ⟨N, 1, none⟩ = some (.int .i64 t.base) ∧ x.cell? ⟨M2, 0, none⟩ = some (.slice va vn vc) ∧ x.cell? ⟨M2, 1, none⟩ = some (.int .i64 t.base) := fun x hx => ⟨hx.cell i0, hx.cell i1, hx.cell i2, hx.cell i3, hx.cell i4, hx.cell i5, hx.cell z2, hx.cell z3⟩
          clear p1 p3 pt pu e1 e3 q1 q2 hvW hL hml hlt hsL hsT
          have hcur := Cur.refl w13
          go_region_held3 (fun x => x.cell? ⟨x8, 0, none⟩ = some (.slice a1 n1 d1) ∧ x.cell? ⟨x8, 1, none⟩ = some (.int .i64 t.base) ∧ x.cell? ⟨x9, 0, none⟩ = some (.slice a3 n3 d3) ∧ x.cell? ⟨x9, 1, none⟩ = some (.int .i64 t.base) ∧ x.cell? ⟨N, 0, none⟩ = some (.slice ta tn tc) ∧ x.cell? ⟨N, 1, none⟩ = some (.int .i64 t.base) ∧ x.cell? ⟨M2, 0, none⟩ = some (.slice va vn vc) ∧ x.cell? ⟨M2, 1, none⟩ = some (.int .i64 t.base))
            (first | exact hM _ (by first | assumption | (refine Cur.drew ?_; assumption)))
            (first
              | (go_at_call 9; refine (k9 _ (by first | assumption | (refine Cur.drew ?_; assumption))).mono ?_; rintro e y1 ⟨rfl, o1⟩)
              | (go_at_call 20; with_reducible refine (k20q _ (by first | assumption | (refine Cur.drew ?_; assumption))).mono ?_; rintro e y2 ⟨v2, rfl, hv2, o2⟩)
              | (go_at_call 29; with_reducible refine (k29q _ _ _ (by first | assumption | (refine Cur.drew ?_; assumption)) hv2).mono ?_; rintro e y3 ⟨v3, rfl, hv3, hv3', o3⟩)
              | (go_at_call 19; with_reducible refine (k19q _ _ _ (by first | assumption | (refine Cur.drew ?_; assumption)) hv3' hv3).mono ?_; rintro e y4 ⟨rfl, o4⟩; clear hv3 hv3' hv2)
              | (go_at_call 20; with_reducible refine (k20r _ (by first | assumption | (refine Cur.drew ?_; assumption))).mono ?_; rintro e y5 ⟨v5, rfl, hv5, o5⟩)
              | (go_at_call 29; with_reducible refine (k29r _ _ _ (by first | assumption | (refine Cur.drew ?_; assumption)) hv5).mono ?_; rintro e y6 ⟨v6, rfl, hv6, hv6', o6⟩)
              | (go_at_call 19; with_reducible refine (k19r _ _ _ (by first | assumption | (refine Cur.drew ?_; assumption)) hv6' hv6).mono ?_; rintro e y7 ⟨rfl, o7⟩; clear hv6 hv6' hv5)
              | (go_at_call 20; with_reducible refine (k20b _ (by first | assumption | (refine Cur.drew ?_; assumption))).mono ?_; rintro e y8 ⟨v8, rfl, hv8, o8⟩)
              | (go_at_call 19; with_reducible refine (k19b _ _ (by first | assumption | (refine Cur.drew ?_; assumption)) hv8).mono ?_; rintro e y9 ⟨rfl, o9⟩))
          go_wp2
          go_ret
          exact ⟨rfl, blB.trans (Below.mono o9 hzB)⟩
        · by_cases h1 : (tn : Int) < n
          · skip
            have hn : n < 0 ∨ (tn : Int) < n := .inr h1
            have zn : decide (n < 0) = false := decide_eq_false h0
            have zm : decide ((tn : Int) < n) = true := decide_eq_true h1
            go_wp2_with fail
            refine (Rest_no t n _ _ _ hx (by rw [HTN.out]; exact hn)).mono ?_
            rintro e w9 ⟨rfl, hb9⟩
            have hc9 := hc8.then hb9
            clear hb9 hc8 hx
            obtain ⟨M, hM⟩ : ∃ M, w9.heap.size = M := ⟨_, rfl⟩
            have hcA := hc9.alloc (.cells #[.slice none 0 0, .int .i64 0] 29)
            obtain ⟨i0, i1, i2, i3, i4, i5⟩ := hL _ hcA
            have bA := Blk.new' w9 M 29 #[.slice none 0 0, .int .i64 0] hM
            have hrest : Calls Try.prog 27 #[tv (.slice a3 n3 d3) t.base, .int .i64 (mm : Int)] (w9.alloc (.cells #[.slice none 0 0, .int .i64 0] 29)) fun e w' => ∃ va vn vc, e = .returned (.tuple #[tv (.slice va vn vc) t.base, .int .i64 0]) ∧ Holds w' okT t.args (.slice va vn vc) ∧ Below (w9.alloc (.cells #[.slice none 0 0, .int .i64 0] 29)).heap.size (w9.alloc (.cells #[.slice none 0 0, .int .i64 0] 29)) w' := by
              refine (Rest_yes (.mk (us ++ t.args) t.base) mm okT _ _ (hcA.holds e3) (by show mm ≤ (us ++ t.args).length; rw [List.length_append, HUL.out]; omega) hml).mono ?_
              rintro e w' ⟨v, h1, h2, h3⟩
              obtain ⟨a, c, hv, _⟩ := h2.shape
              subst hv
              refine ⟨_, _, _, h1, ?_, h3⟩
              rwa [show (Ty.mk (us ++ t.args) t.base).args.drop mm = t.args from List.drop_left' HUL.out] at h2 ⊢
            go_wp2_with fail
            refine hrest.mono ?_
            rintro e w10 ⟨va, vn, vc, rfl, hv, hb10⟩
            have hc10 := hcA.then hb10
            have bA' := bA.below hb10 bA.lt
            clear hrest hcA i0 i1 i2 i3 i4 i5 bA
            clear hb10 hc9 hM
            obtain ⟨M2, hM2⟩ : ∃ M2, w10.heap.size = M2 := ⟨_, rfl⟩
            have bB := Blk.new' w10 M2 29 #[.slice va vn vc, .int .i64 t.base] hM2
            have hcB := hc10.alloc (.cells #[.slice va vn vc, .int .i64 t.base] 29)
            have hvB := hv.alloc (.cells #[.slice va vn vc, .int .i64 t.base] 29)
            have bAB := bA'.alloc (.cells #[.slice va vn vc, .int .i64 t.base] 29)
            clear bA' hv hc10
            obtain ⟨i0, i1, i2, i3, i4, i5⟩ := hL _ hcB
            have z0 := bAB.cell 0
            have z1 := bAB.cell 1
            have z2 := bB.cell 0
            have z3 := bB.cell 1
            go_wp2_with fail
            generalize w10.alloc (.cells #[.slice va vn vc, .int .i64 t.base] 29) = wB at *
            refine (k20_any wB [] 0 _ (by decide) (Holds.nil _ _ none 0 (fun _ => rfl)) _ (Cur.refl wB)).mono ?_
            rintro e w12 ⟨v12, rfl, hv12, hc12⟩
            go_wp2_with fail
            refine (k19_any wB [] 0 (by decide) _ _ _ hc12 hv12 (Holds.nil _ _ none 0 (fun _ => rfl))).mono ?_
            rintro e w13 ⟨rfl, hc13⟩
            clear hc12 hv12 w12
            have hcW : Cur w7 w13 := hcB.trans (Below.mono hc13 (Below.size hcB))
            have hvW := hc13.holds hvB
            obtain ⟨i0, i1, i2, i3, i4, i5⟩ := hL _ hcW
            have z2 := hc13.cell z2
            have z3 := hc13.cell z3
            clear hvB bAB bB z0 z1 hcB hM2 hc13
            go_wp2_with fail
            have p1 := hcW.holds e1
            have p3 := hcW.holds e3
            have pt := hcW.holds q1
            have pu := hcW.holds q2
            have hzB : N ≤ w13.heap.size := Nat.le_trans hz7 (Below.size hcW)
            have blB : Below N w w13 := bl7.trans (Below.mono hcW hz7)
            have k9 := fun (cur : World) (hc : Cur w13 cur) => Calls.cur hc (known_calls cur)
            have k20q := k20_any w13 us t.base _ (by omega) p1
            have k29q := k29_any w13 [] us t.base (.slice none 0 0) _ (Holds.nil _ _ none 0 (fun _ => rfl)) pu (by rw [HUL.out]; simp; omega)
            rw [List.append_nil] at k29q
            have k19q := k19_any w13 us t.base (by omega)
            have k20r := k20_any w13 (us ++ t.args) t.base _ (by rw [sizeL_append]; omega) p3
            have k29r := k29_any w13 t.args us t.base _ _ pt pu (by rw [HUL.out]; omega)
            have k19r := k19_any w13 (us ++ t.args) t.base (by rw [sizeL_append]; omega)
            have k20b := k20_any w13 t.args t.base _ (by omega) hvW
            have k19b := fun (cur : World) (v : Value) (hc : Cur w13 cur) (hv : Holds cur okT t.args v) => k19_any w13 t.args t.base (by omega) cur v _ hc hv (hc.holds pt)
            have hM : ∀ x : World, Cur w13 x → x.cell? ⟨x8, 0, none⟩ = some (.slice a1 n1 d1) ∧ x.cell? ⟨x8, 1, none⟩ = some (.int .i64 t.base) ∧ x.cell? ⟨x9, 0, none⟩ = some (.slice a3 n3 d3) ∧ x.cell? ⟨x9, 1, none⟩ = some (.int .i64 t.base) ∧ x.cell? ⟨N, 0, none⟩ = some (.slice ta tn tc) ∧ x.cell? ⟨N, 1, none⟩ = some (.int .i64 t.base) ∧ x.cell? ⟨M2, 0, none⟩ = some (.slice va vn vc) ∧ x.cell? ⟨M2, 1, none⟩ = some (.int .i64 t.base) := fun x hx => ⟨hx.cell i0, hx.cell i1, hx.cell i2, hx.cell i3, hx.cell i4, hx.cell i5, hx.cell z2, hx.cell z3⟩
            clear p1 p3 pt pu e1 e3 q1 q2 hvW hL hml hlt hsL hsT
            have hcur := Cur.refl w13
            go_region_held3 (fun x => x.cell? ⟨x8, 0, none⟩ = some (.slice a1 n1 d1) ∧ x.cell? ⟨x8, 1, none⟩ = some (.int .i64 t.base) ∧ x.cell? ⟨x9, 0, none⟩ = some (.slice a3 n3 d3) ∧ x.cell? ⟨x9, 1, none⟩ = some (.int .i64 t.base) ∧ x.cell? ⟨N, 0, none⟩ = some (.slice ta tn tc) ∧ x.cell? ⟨N, 1, none⟩ = some (.int .i64 t.base) ∧ x.cell? ⟨M2, 0, none⟩ = some (.slice va vn vc) ∧ x.cell? ⟨M2, 1, none⟩ = some (.int .i64 t.base))
              (first | exact hM _ (by first | assumption | (refine Cur.drew ?_; assumption)))
              (first
                | (go_at_call 9; refine (k9 _ (by first | assumption | (refine Cur.drew ?_; assumption))).mono ?_; rintro e y1 ⟨rfl, o1⟩)
                | (go_at_call 20; with_reducible refine (k20q _ (by first | assumption | (refine Cur.drew ?_; assumption))).mono ?_; rintro e y2 ⟨v2, rfl, hv2, o2⟩)
                | (go_at_call 29; with_reducible refine (k29q _ _ _ (by first | assumption | (refine Cur.drew ?_; assumption)) hv2).mono ?_; rintro e y3 ⟨v3, rfl, hv3, hv3', o3⟩)
                | (go_at_call 19; with_reducible refine (k19q _ _ _ (by first | assumption | (refine Cur.drew ?_; assumption)) hv3' hv3).mono ?_; rintro e y4 ⟨rfl, o4⟩; clear hv3 hv3' hv2)
                | (go_at_call 20; with_reducible refine (k20r _ (by first | assumption | (refine Cur.drew ?_; assumption))).mono ?_; rintro e y5 ⟨v5, rfl, hv5, o5⟩)
                | (go_at_call 29; with_reducible refine (k29r _ _ _ (by first | assumption | (refine Cur.drew ?_; assumption)) hv5).mono ?_; rintro e y6 ⟨v6, rfl, hv6, hv6', o6⟩)
                | (go_at_call 19; with_reducible refine (k19r _ _ _ (by first | assumption | (refine Cur.drew ?_; assumption)) hv6' hv6).mono ?_; rintro e y7 ⟨rfl, o7⟩; clear hv6 hv6' hv5)
                | (go_at_call 20; with_reducible refine (k20b _ (by first | assumption | (refine Cur.drew ?_; assumption))).mono ?_; rintro e y8 ⟨v8, rfl, hv8, o8⟩)
                | (go_at_call 19; with_reducible refine (k19b _ _ (by first | assumption | (refine Cur.drew ?_; assumption)) hv8).mono ?_; rintro e y9 ⟨rfl, o9⟩))
            go_wp2
            go_ret
            exact ⟨rfl, blB.trans (Below.mono o9 hzB)⟩
          · skip
            obtain ⟨k, rfl⟩ := Int.eq_ofNat_of_zero_le (Int.not_lt.1 h0)
            have hk : k ≤ tn := by omega
            have zn : decide ((k : Int) < 0) = false := decide_eq_false h0
            have zm : decide ((tn : Int) < k) = false := decide_eq_false h1
            go_wp2_with fail
            refine (Rest_yes t k _ _ _ hx (by rw [HTN.out]; exact hk) (by omega)).mono ?_
            rintro e w9 ⟨yv, rfl, hy, hb9⟩
            obtain ⟨ya, yc, hyv, _⟩ := hy.shape
            generalize (t.args.drop k).length = yn at hyv
            subst hyv
            have hc9 := hc8.then hb9
            clear hb9 hc8 hx
            obtain ⟨M, hM⟩ : ∃ M, w9.heap.size = M := ⟨_, rfl⟩
            have hcA := hc9.alloc (.cells #[.slice ya yn yc, .int .i64 t.base] 29)
            obtain ⟨i0, i1, i2, i3, i4, i5⟩ := hL _ hcA
            have bA := Blk.new' w9 M 29 #[.slice ya yn yc, .int .i64 t.base] hM
            have hrest : Calls Try.prog 27 #[tv (.slice a3 n3 d3) t.base, .int .i64 (mm : Int)] (w9.alloc (.cells #[.slice ya yn yc, .int .i64 t.base] 29)) fun e w' => ∃ va vn vc, e = .returned (.tuple #[tv (.slice va vn vc) t.base, .int .i64 0]) ∧ Holds w' okT t.args (.slice va vn vc) ∧ Below (w9.alloc (.cells #[.slice ya yn yc, .int .i64 t.base] 29)).heap.size (w9.alloc (.cells #[.slice ya yn yc, .int .i64 t.base] 29)) w' := by
              refine (Rest_yes (.mk (us ++ t.args) t.base) mm okT _ _ (hcA.holds e3) (by show mm ≤ (us ++ t.args).length; rw [List.length_append, HUL.out]; omega) hml).mono ?_
              rintro e w' ⟨v, h1, h2, h3⟩
              obtain ⟨a, c, hv, _⟩ := h2.shape
              subst hv
              refine ⟨_, _, _, h1, ?_, h3⟩
              rwa [show (Ty.mk (us ++ t.args) t.base).args.drop mm = t.args from List.drop_left' HUL.out] at h2 ⊢
            go_wp2_with fail
            refine hrest.mono ?_
            rintro e w10 ⟨va, vn, vc, rfl, hv, hb10⟩
            have hc10 := hcA.then hb10
            have bA' := bA.below hb10 bA.lt
            clear hrest hcA i0 i1 i2 i3 i4 i5 bA
            have hyB := ((hy.alloc _).bel hb10).alloc (.cells #[.slice va vn vc, .int .i64 t.base] 29)
            clear hy
            clear hb10 hc9 hM
            obtain ⟨M2, hM2⟩ : ∃ M2, w10.heap.size = M2 := ⟨_, rfl⟩
            have bB := Blk.new' w10 M2 29 #[.slice va vn vc, .int .i64 t.base] hM2
            have hcB := hc10.alloc (.cells #[.slice va vn vc, .int .i64 t.base] 29)
            have hvB := hv.alloc (.cells #[.slice va vn vc, .int .i64 t.base] 29)
            have bAB := bA'.alloc (.cells #[.slice va vn vc, .int .i64 t.base] 29)
            clear bA' hv hc10
            obtain ⟨i0, i1, i2, i3, i4, i5⟩ := hL _ hcB
            have z0 := bAB.cell 0
            have z1 := bAB.cell 1
            have z2 := bB.cell 0
            have z3 := bB.cell 1
            go_wp2_with fail
            generalize w10.alloc (.cells #[.slice va vn vc, .int .i64 t.base] 29) = wB at *
            have hsd : sizeL (t.args.drop k) ≤ 3000 := by have := sizeL_drop_le t.args k; omega
            have k20y := k20_any wB (t.args.drop k) t.base _ hsd hyB
            have k28y := k28_any wB t k _ (hcB.holds q1) (by rw [HTN.out]; exact hk) (by omega)
            have k19y := k19_any wB (t.args.drop k) t.base hsd
            have hY : ∀ x : World, Cur wB x → x.cell? ⟨M, 0, none⟩ = some (.slice ya yn yc) ∧ x.cell? ⟨M, 1, none⟩ = some (.int .i64 t.base) ∧ x.cell? ⟨N, 0, none⟩ = some (.slice ta tn tc) ∧ x.cell? ⟨N, 1, none⟩ = some (.int .i64 t.base) := fun x hx => ⟨hx.cell z0, hx.cell z1, hx.cell i4, hx.cell i5⟩
            have hcur := Cur.refl wB
            go_region_held3 (fun x => x.cell? ⟨M, 0, none⟩ = some (.slice ya yn yc) ∧ x.cell? ⟨M, 1, none⟩ = some (.int .i64 t.base) ∧ x.cell? ⟨N, 0, none⟩ = some (.slice ta tn tc) ∧ x.cell? ⟨N, 1, none⟩ = some (.int .i64 t.base))
              (first | exact hY _ (by first | assumption | (refine Cur.drew ?_; assumption)))
              (first
                | (go_at_call 20; refine (k20y _ (by first | assumption | (refine Cur.drew ?_; assumption))).mono ?_; rintro e y1 ⟨v1, rfl, hv1, o1⟩)
                | (go_at_call 28; refine (k28y _ _ _ (by first | assumption | (refine Cur.drew ?_; assumption)) hv1).mono ?_; rintro e y2 ⟨v2, rfl, hv2, hv2', o2⟩)
                | (go_at_call 19; refine (k19y _ _ _ (by first | assumption | (refine Cur.drew ?_; assumption)) hv2' hv2).mono ?_; rintro e w13 ⟨rfl, hc13⟩))
            clear hv1 hv2 hv2' o1 o2 hcur k20y k28y k19y hY y1 y2
            have hcW : Cur w7 w13 := hcB.trans (Below.mono hc13 (Below.size hcB))
            have hvW := hc13.holds hvB
            obtain ⟨i0, i1, i2, i3, i4, i5⟩ := hL _ hcW
            have z2 := hc13.cell z2
            have z3 := hc13.cell z3
            clear hvB bAB bB z0 z1 hcB hM2 hc13 hyB
            go_wp2_with fail
            have p1 := hcW.holds e1
            have p3 := hcW.holds e3
            have pt := hcW.holds q1
            have pu := hcW.holds q2
            have hzB : N ≤ w13.heap.size := Nat.le_trans hz7 (Below.size hcW)
            have blB : Below N w w13 := bl7.trans (Below.mono hcW hz7)
            have k9 := fun (cur : World) (hc : Cur w13 cur) => Calls.cur hc (known_calls cur)
            have k20q := k20_any w13 us t.base _ (by omega) p1
            have k29q := k29_any w13 [] us t.base (.slice none 0 0) _ (Holds.nil _ _ none 0 (fun _ => rfl)) pu (by rw [HUL.out]; simp; omega)
            rw [List.append_nil] at k29q
            have k19q := k19_any w13 us t.base (by omega)
            have k20r := k20_any w13 (us ++ t.args) t.base _ (by rw [sizeL_append]; omega) p3
            have k29r := k29_any w13 t.args us t.base _ _ pt pu (by rw [HUL.out]; omega)
            have k19r := k19_any w13 (us ++ t.args) t.base (by rw [sizeL_append]; omega)
            have k20b := k20_any w13 t.args t.base _ (by omega) hvW
            have k19b := fun (cur : World) (v : Value) (hc : Cur w13 cur) (hv : Holds cur okT t.args v) => k19_any w13 t.args t.base (by omega) cur v _ hc hv (hc.holds pt)
            have hM : ∀ x : World, Cur w13 x → x.cell? ⟨x8, 0, none⟩ = some (.slice a1 n1 d1) ∧ x.cell? ⟨x8, 1, none⟩ = some (.int .i64 t.base) ∧ x.cell? ⟨x9, 0, none⟩ = some (.slice a3 n3 d3) ∧ x.cell? ⟨x9, 1, none⟩ = some (.int .i64 t.base) ∧ x.cell? ⟨N, 0, none⟩ = some (.slice ta tn tc) ∧ x.cell? ⟨N, 1, none⟩ = some (.int .i64 t.base) ∧ x.cell? ⟨M2, 0, none⟩ = some (.slice va vn vc) ∧ x.cell? ⟨M2, 1, none⟩ = some (.int .i64 t.base) := fun x hx => ⟨hx.cell i0, hx.cell i1, hx.cell i2, hx.cell i3, hx.cell i4, hx.cell i5, hx.cell z2, hx.cell z3⟩
            clear p1 p3 pt pu e1 e3 q1 q2 hvW hL hml hlt hsL hsT
            have hcur := Cur.refl w13
            go_region_held3 (fun x => x.cell? ⟨x8, 0, none⟩ = some (.slice a1 n1 d1) ∧ x.cell? ⟨x8, 1, none⟩ = some (.int .i64 t.base) ∧ x.cell? ⟨x9, 0, none⟩ = some (.slice a3 n3 d3) ∧ x.cell? ⟨x9, 1, none⟩ = some (.int .i64 t.base) ∧ x.cell? ⟨N, 0, none⟩ = some (.slice ta tn tc) ∧ x.cell? ⟨N, 1, none⟩ = some (.int .i64 t.base) ∧ x.cell? ⟨M2, 0, none⟩ = some (.slice va vn vc) ∧ x.cell? ⟨M2, 1, none⟩ = some (.int .i64 t.base))
              (first | exact hM _ (by first | assumption | (refine Cur.drew ?_; assumption)))
              (first
                | (go_at_call 9; refine (k9 _ (by first | assumption | (refine Cur.drew ?_; assumption))).mono ?_; rintro e y1 ⟨rfl, o1⟩)
                | (go_at_call 20; with_reducible refine (k20q _ (by first | assumption | (refine Cur.drew ?_; assumption))).mono ?_; rintro e y2 ⟨v2, rfl, hv2, o2⟩)
                | (go_at_call 29; with_reducible refine (k29q _ _ _ (by first | assumption | (refine Cur.drew ?_; assumption)) hv2).mono ?_; rintro e y3 ⟨v3, rfl, hv3, hv3', o3⟩)
                | (go_at_call 19; with_reducible refine (k19q _ _ _ (by first | assumption | (refine Cur.drew ?_; assumption)) hv3' hv3).mono ?_; rintro e y4 ⟨rfl, o4⟩; clear hv3 hv3' hv2)
                | (go_at_call 20; with_reducible refine (k20r _ (by first | assumption | (refine Cur.drew ?_; assumption))).mono ?_; rintro e y5 ⟨v5, rfl, hv5, o5⟩)
                | (go_at_call 29; with_reducible refine (k29r _ _ _ (by first | assumption | (refine Cur.drew ?_; assumption)) hv5).mono ?_; rintro e y6 ⟨v6, rfl, hv6, hv6', o6⟩)
                | (go_at_call 19; with_reducible refine (k19r _ _ _ (by first | assumption | (refine Cur.drew ?_; assumption)) hv6' hv6).mono ?_; rintro e y7 ⟨rfl, o7⟩; clear hv6 hv6' hv5)
                | (go_at_call 20; with_reducible refine (k20b _ (by first | assumption | (refine Cur.drew ?_; assumption))).mono ?_; rintro e y8 ⟨v8, rfl, hv8, o8⟩)
                | (go_at_call 19; with_reducible refine (k19b _ _ (by first | assumption | (refine Cur.drew ?_; assumption)) hv8).mono ?_; rintro e y9 ⟨rfl, o9⟩))
            go_wp2
            go_ret
            exact ⟨rfl, blB.trans (Below.mono o9 hzB)⟩

end Go.Proofs.Ythcncdihgghbjaa
