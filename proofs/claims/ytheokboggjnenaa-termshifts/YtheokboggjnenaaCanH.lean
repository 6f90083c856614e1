/-
  The contract of term.canShift.
-/
import Derived.Test.YtheokboggjnenaaSizeH
import Derived.Test.YtheokboggjnenaaLooseH
namespace Go.Proofs.Ytheokboggjnenaa
open Go Go.RowKit Go.Shelf

attribute [local go_sem] Oper.semAt_some

/-- Does a loose index fall below the first that grows? Does it grow too great? -/
def badB (gy fr : Int) (l : List Hd) : Bool := l.any fun p => match p.out with
  | some i => decide (fr ≤ i) && decide (gy < fr - i)
  | none => false
def longB (gy fr : Int) (l : List Hd) : Bool := l.any fun p => match p.out with
  | some i => decide (fr ≤ i) && decide (1000 - i < gy)
  | none => false
def errI (gy fr : Int) (l : List Hd) : Int := if badB gy fr l then 1 else if longB gy fr l then 2 else 0
theorem badB_snoc (gy fr : Int) (l : List Hd) (p : Hd) : badB gy fr (l ++ [p]) = (badB gy fr l || match p.out with | some i => decide (fr ≤ i) && decide (gy < fr - i) | none => false) := by
  unfold badB; rw [List.any_append]; simp
theorem longB_snoc (gy fr : Int) (l : List Hd) (p : Hd) : longB gy fr (l ++ [p]) = (longB gy fr l || match p.out with | some i => decide (fr ≤ i) && decide (1000 - i < gy) | none => false) := by
  unfold longB; rw [List.any_append]; simp
theorem badB_prefix {gy fr : Int} {l m : List Hd} (h : badB gy fr l = true) (hp : l <+: m) : badB gy fr m = true := by
  unfold badB at h ⊢
  rw [List.any_eq_true] at h ⊢
  obtain ⟨p, h1, h2⟩ := h
  exact ⟨p, hp.subset h1, h2⟩
def ICan (w : World) (N : Nat) (gy fr : Int) (l : List Hd) (W : World) : Prop := (Blk W (N + 1) 3 #[.int .i64 gy] ∧ Blk W (N + 1 + 1) 3 #[.int .i64 fr] ∧ Blk W (N + 1 + 1 + 1) 64 #[.int .i64 0] ∧ Blk W (N + 1 + 1 + 1 + 1) 64 #[.int .i64 (if longB gy fr l then 2 else 0)] ∧ badB gy fr l = false) ∧ Below N w W
def XCan (w : World) (N : Nat) (gy fr : Int) (c : Code) (l : List Hd) (W : World) : Prop := (c = .ret ∧ Blk W (N + 1 + 1 + 1) 64 #[.int .i64 1] ∧ badB gy fr l = true) ∧ Below N w W

set_option maxRecDepth 100000 in
set_option maxHeartbeats 2000000 in
theorem canShift_pos (gy fr : Int) (t : Tm) (ok : Nat → Prop) (sb sl : Value) (w : World) (hb : Holds w ok t.binds sb) (hh : HoldsT w ok t.args sl) (hsz : t.total ≤ 900000) (hrg : t.rng) (hfr : 0 ≤ fr) (hff : fits fr) (hgf : fits gy) :
    Calls Try.prog 83 #[tmv sb t.kind t.idx sl, .int .i64 gy, .int .i64 fr] w fun e w' => e = .returned (.int .i64 (errI gy fr (t.heads 1 0))) ∧ Below w.heap.size w w' := by
  refine (callsIn_wide (n := 9)).1 ?_
  have hf56 : Fence.wide.fn 56 := trivial
  obtain ⟨N, hN⟩ : ∃ N, w.heap.size = N := ⟨_, rfl⟩
  have hst := t.size_le_total
  have hb0 : Holds w (fun b => b < N) t.binds sb := hb.mono fun b h _ => by omega
  have hh0 : HoldsT w (fun b => b < N) t.args sl := hh.mono fun b h _ => by omega
  obtain ⟨x1, x2, hsb, _⟩ := hb.shape
  obtain ⟨x3, x4, hsl, _⟩ := hh.shape
  generalize t.binds.length = bn at hsb
  generalize t.args.length = an at hsl
  subst hsb
  subst hsl
  refine callsIn_of_wp_marks Try.func83 rfl trivial ?_ rfl
  simp only [Try.ntmps83, List.size_toArray, List.length_cons, List.length_nil, Nat.reduceAdd, Nat.reduceSub, Array.replicate_succ, Array.replicate_zero, List.push_toArray, List.append_toArray, List.nil_append, List.cons_append]
  have hf57 : Fence.wide.fn 57 := trivial
  have zfr : decide (fr < 0) = false := decide_eq_false (by omega)
  gi_wp2_with (gi_at_call 56; refine (heads_in _ _ _ _ _ _).mono ?_; rintro e w' ⟨rfl, rfl⟩)
  obtain ⟨W0, hW0⟩ : ∃ W0, (((((w.alloc (.cells #[.slice x1 bn x2, .int .i64 t.kind, .int .i64 t.idx, .slice x3 an x4] 34)).alloc (.cells #[.int .i64 gy] 3)).alloc (.cells #[.int .i64 fr] 3)).alloc (.cells #[.int .i64 0] 64)).alloc (.cells #[.int .i64 0] 64)).alloc (.cells #[.slice x1 bn x2, .int .i64 t.kind, .int .i64 t.idx, .slice x3 an x4] 34) = W0 := ⟨_, rfl⟩
  have b0 : Blk W0 (N) 34 #[.slice x1 bn x2, .int .i64 t.kind, .int .i64 t.idx, .slice x3 an x4] := by rw [← hW0]; exact (((((Blk.new' _ (N) 34 _ (by simp [hN])).alloc _).alloc _).alloc _).alloc _).alloc _
  have b1 : Blk W0 (N + 1) 3 #[.int .i64 gy] := by rw [← hW0]; exact ((((Blk.new' _ (N + 1) 3 _ (by simp [hN])).alloc _).alloc _).alloc _).alloc _
  have b2 : Blk W0 (N + 1 + 1) 3 #[.int .i64 fr] := by rw [← hW0]; exact (((Blk.new' _ (N + 1 + 1) 3 _ (by simp [hN])).alloc _).alloc _).alloc _
  have b3 : Blk W0 (N + 1 + 1 + 1) 64 #[.int .i64 0] := by rw [← hW0]; exact ((Blk.new' _ (N + 1 + 1 + 1) 64 _ (by simp [hN])).alloc _).alloc _
  have b4 : Blk W0 (N + 1 + 1 + 1 + 1) 64 #[.int .i64 0] := by rw [← hW0]; exact (Blk.new' _ (N + 1 + 1 + 1 + 1) 64 _ (by simp [hN])).alloc _
  have b5 : Blk W0 (N + 1 + 1 + 1 + 1 + 1) 34 #[.slice x1 bn x2, .int .i64 t.kind, .int .i64 t.idx, .slice x3 an x4] := by rw [← hW0]; exact Blk.new' _ (N + 1 + 1 + 1 + 1 + 1) 34 _ (by simp [hN])
  have hsz0 : W0.heap.size = N + 6 := by rw [← hW0]; simp [hN]
  have hbl : Below N w W0 := by rw [← hW0]; exact ((((((Below.refl N w).alloc (by omega) _).alloc (by simp; omega) _).alloc (by simp; omega) _).alloc (by simp; omega) _).alloc (by simp; omega) _).alloc (by simp; omega) _
  rw [hW0]
  have HN : Hid (w.heap.size = N) := hN
  clear hW0 hN
  refine range_free rfl (by omega) (gf := 93) (lb := #[.pointer (some ⟨N + 1 + 1 + 1 + 1 + 1, 0, none⟩)]) rfl trivial (enters_of Try.func93 (by kernel_rfl) rfl)
    (heads_stops w (fun b => b < N) N (9 - 1) (N + 1 + 1 + 1 + 1 + 1) (fun _ h => h) t _ _ W0 b5 hb0 hh0 hsz (by omega) (KeepP.of_below (by rw [HN.out]; exact hbl))) (Below.refl _ _) KpT.trans (fun W l o o' hl => KpT.put (n0 := N) (fun _ h => h) W l o o' (by omega)) (fun _ => rfl)
    (ICan w N gy fr) (XCan w N gy fr) (FreeFrom.and (FreeFrom.and (blk_free (by omega)) (FreeFrom.and (blk_free (by omega)) (FreeFrom.and (blk_free (by omega)) (FreeFrom.and (blk_free (by omega)) const_free)))) (freeFrom_below (by rw [HN.out]; exact Nat.le_refl _) (by omega))) (fun c => FreeFrom.and (FreeFrom.and const_free (FreeFrom.and (blk_free (by omega)) const_free)) (freeFrom_below (by rw [HN.out]; exact Nat.le_refl _) (by omega))) ⟨⟨b1, b2, b3, b4, rfl⟩, hbl⟩ ?round ?done ?stop
  case round =>
    rintro l m pre x W K hW hl ⟨⟨c1, c2, c3, c4, hbad⟩, hb9⟩ hlen hGx hK
    have HN9 := HN.out
    have hfx := rng_heads t hrg 1 0 x hGx
    have hax := around_heads t 1 0 x hGx
    clear hGx
    obtain ⟨X, hX⟩ : ∃ X, W.heap.size = X := ⟨_, rfl⟩
    obtain ⟨Wa, hWa⟩ : ∃ Wa, (W.alloc (.cells #[.int .i64 (x.deep : Int), .int .i64 (x.around : Int)] 99)).alloc (.cells #[.int .i64 x.kind, .int .i64 x.idx] 31) = Wa := ⟨_, rfl⟩
    have d0 : Blk Wa (X) 99 #[.int .i64 (x.deep : Int), .int .i64 (x.around : Int)] := by rw [← hWa]; exact (Blk.new' _ (X) 99 _ (by simp [hX])).alloc _
    have d1 : Blk Wa (X + 1) 31 #[.int .i64 x.kind, .int .i64 x.idx] := by rw [← hWa]; exact Blk.new' _ (X + 1) 31 _ (by simp [hX])
    have ka : KpT (fun b => b < N) W Wa := by rw [← hWa]; exact (KpT.alloc W _).trans (KpT.alloc _ _)
    have kf : KeepsFrom W0.heap.size W Wa := by rw [← hWa]; exact ((KeepsOthers.alloc W _).from _).trans ((KeepsOthers.alloc _ _).from _)
    have hba : Below W.heap.size W Wa := by rw [← hWa]; exact ((Below.refl _ W).alloc (Nat.le_refl _) _).alloc (by simp) _
    have c1 := c1.below hba c1.lt
    have c2 := c2.below hba c2.lt
    have c3 := c3.below hba c3.lt
    have c4 := c4.below hba c4.lt
    have hb9 := hb9.trans (hba.mono (by omega))
    have HWa : Hid _ := hWa
    clear hWa hba
    gi_wp2
    rw [HWa.out]
    clear HWa
    refine hK _ _ kf (fun o o' ho hc _ => ?_)
    have k1 : KpT (fun b => b < N) W (Wa.putObj l o') := ka.trans (KpT.put (n0 := N) (fun _ h => h) Wa l o o' (by omega) ho hc)
    have c1 := c1.put o' ho hc
    have c2 := c2.put o' ho hc
    have c3 := c3.put o' ho hc
    have c4 := c4.put o' ho hc
    have d0 := d0.put o' ho hc
    have d1 := d1.put o' ho hc
    have hb9 : Below N w (Wa.putObj l o') := (freeFrom_below (β := Unit) (w0 := w) (n0 := N) (B := N) (by omega) (Nat.le_refl _)).put (s := ()) (by omega) ho hc o' hb9
    clear hK ho hc ka kf
    generalize Wa.putObj l o' = W2 at *
    have HB : Hid (badB gy fr (pre ++ [x]) = (badB gy fr pre || match x.out with | some i => decide (fr ≤ i) && decide (gy < fr - i) | none => false)) := badB_snoc gy fr pre x
    have HL : Hid (longB gy fr (pre ++ [x]) = (longB gy fr pre || match x.out with | some i => decide (fr ≤ i) && decide (1000 - i < gy) | none => false)) := longB_snoc gy fr pre x
    have hcall := outs_calls x hfx.2 W2
    obtain ⟨mv, hmv⟩ : ∃ v : Int, (if longB gy fr pre then 2 else 0) = v := ⟨_, rfl⟩
    rw [hmv] at c4
    have HM : Hid _ := hmv
    have HBB : Hid _ := hbad
    have hxo : Hid (x.out = if x.kind = 0 ∧ (x.around : Int) ≤ x.idx then some (x.idx - x.around) else none) := rfl
    have q0 := d0.cell 1
    have q1 := d1.cell 0
    have q2 := d1.cell 1
    obtain ⟨hff1, hff2⟩ := hff
    obtain ⟨hgf1, hgf2⟩ := hgf
    have hxi := hfx.2.2
    clear hmv hbad hfx
    gi_wp2_with fail
    refine ⟨(fun h => by cases h), (CallsIn.inRound l (callsIn_wide.2 hcall)).mono ?_⟩
    rintro e w3 ⟨rfl, hbw⟩
    have c1 := c1.below hbw c1.lt
    have c2 := c2.below hbw c2.lt
    have c3 := c3.below hbw c3.lt
    have c4 := c4.below hbw c4.lt
    have hb3 : Below N w w3 := hb9.trans (hbw.mono (by have := hb9.size; omega))
    have k3 := k1.trans (KpT.of_below hbw)
    have kf3 : KeepsFrom W0.heap.size W2 w3 := ⟨hbw.size, fun k _ _ hk _ => (hbw.block k (Array.getElem?_eq_some_iff.1 hk).1).trans hk⟩
    have stay : Hid (badB gy fr (pre ++ [x]) = false → longB gy fr (pre ++ [x]) = longB gy fr pre → endsF W0.heap.size (KpT fun b => b < N) (ICan w N gy fr) (XCan w N gy fr) (pre ++ [x]) W W2 .normal { tmps := #[], defers := [] } w3) := fun h1 h2 =>
      ⟨kf3, k3, ⟨c1, c2, c3, by rw [h2, HM.out]; exact c4, h1⟩, hb3⟩
    have grow : Hid (badB gy fr (pre ++ [x]) = false → longB gy fr (pre ++ [x]) = true → endsF W0.heap.size (KpT fun b => b < N) (ICan w N gy fr) (XCan w N gy fr) (pre ++ [x]) W W2 .normal { tmps := #[], defers := [] } (w3.setCell ⟨N + 1 + 1 + 1 + 1, 0, none⟩ (.int .i64 2))) := fun h1 h2 =>
      ⟨kf3.trans ((KeepsOthers.setCell _ _ _).from _), k3.trans (KpT.set (n0 := N) (fun _ h => h) c4 (by omega) (by decide) (by decide) (by decide) 0 _), ⟨c1.other (by omega) 0 _, c2.other (by omega) 0 _, c3.other (by omega) 0 _, by rw [h2]; exact c4.set 0 _, h1⟩, bset hb3 (by omega) _⟩
    have bad : Hid (badB gy fr (pre ++ [x]) = true → endsF W0.heap.size (KpT fun b => b < N) (ICan w N gy fr) (XCan w N gy fr) (pre ++ [x]) W W2 .ret { tmps := #[], defers := [] } (w3.setCell ⟨N + 1 + 1 + 1, 0, none⟩ (.int .i64 1))) := fun h1 =>
      ⟨kf3.trans ((KeepsOthers.setCell _ _ _).from _), ⟨rfl, c3.set 0 _, h1⟩, bset hb3 (by omega) _⟩
    have r1 := c1.cell 0
    have r2 := c2.cell 0
    have r3 := c3.cell 0
    have f3 := c3.frozen 0
    have r4 := c4.cell 0
    have f4 := c4.frozen 0
    clear hcall c1 c2 c3 c4 hb9 k1 d0 d1 q0 q1 q2 hbw k3 kf3 hb3
    clear hsz0
    cases hou : x.out with
    | none =>
      have H1 : Hid (badB gy fr (pre ++ [x]) = false) := by show _ = _; rw [HB.out, hou, HBB.out]; rfl
      have H2 : Hid (longB gy fr (pre ++ [x]) = longB gy fr pre) := by show _ = _; rw [HL.out, hou, Bool.or_false]
      simp only [Option.getD_none, Option.isSome_none]
      gi_wp2
      exact stay.out H1.out H2.out
    | some i =>
      have hio : 0 ≤ i ∧ i ≤ 9223372036854775807 := by
        have h9 := hxo.out
        rw [hou] at h9
        by_cases h7 : x.kind = 0 ∧ (x.around : Int) ≤ x.idx
        · rw [if_pos h7] at h9
          simp at h9
          omega
        · rw [if_neg h7] at h9
          cases h9
      have HB2 : Hid (badB gy fr (pre ++ [x]) = (decide (fr ≤ i) && decide (gy < fr - i))) := by show _ = _; rw [HB.out, hou, HBB.out, Bool.false_or]
      have HL2 : Hid (longB gy fr (pre ++ [x]) = (longB gy fr pre || (decide (fr ≤ i) && decide (1000 - i < gy)))) := by show _ = _; rw [HL.out, hou]
      simp only [Option.getD_some, Option.isSome_some]
      clear HB HL HM HBB hxo hxi hou
      by_cases e1 : i < fr
      · have z1 : decide (i < fr) = true := decide_eq_true e1
        have H1 : Hid (badB gy fr (pre ++ [x]) = false) := by show _ = _; rw [HB2.out, decide_eq_false (by omega), Bool.false_and]
        have H2 : Hid (longB gy fr (pre ++ [x]) = longB gy fr pre) := by show _ = _; rw [HL2.out, decide_eq_false (p := fr ≤ i) (by omega), Bool.false_and, Bool.or_false]
        gi_wp2
        exact stay.out H1.out H2.out
      · have z1 : decide (i < fr) = false := decide_eq_false e1
        by_cases e2 : gy < fr - i
        · have z2 : decide (gy < fr - i) = true := decide_eq_true e2
          have H1 : Hid (badB gy fr (pre ++ [x]) = true) := by show _ = _; rw [HB2.out, decide_eq_true (by omega), z2]; rfl
          gi_wp2
          exact bad.out H1.out
        · have z2 : decide (gy < fr - i) = false := decide_eq_false e2
          have H1 : Hid (badB gy fr (pre ++ [x]) = false) := by show _ = _; rw [HB2.out, z2, Bool.and_false]
          by_cases e3 : 1000 - i < gy
          · have z3 : decide (gy > 1000 - i) = true := decide_eq_true e3
            have z4 : decide (1000 - i < gy) = true := decide_eq_true e3
            have H2 : Hid (longB gy fr (pre ++ [x]) = true) := by show _ = _; rw [HL2.out, decide_eq_true (p := fr ≤ i) (by omega), z4]; simp
            gi_wp2
            exact grow.out H1.out H2.out
          · have z3 : decide (gy > 1000 - i) = false := decide_eq_false e3
            have z4 : decide (1000 - i < gy) = false := decide_eq_false e3
            have H2 : Hid (longB gy fr (pre ++ [x]) = longB gy fr pre) := by show _ = _; rw [HL2.out, z4, Bool.and_false, Bool.or_false]
            gi_wp2
            exact stay.out H1.out H2.out
  case done =>
    rintro D ys W hD rfl ⟨⟨c1, c2, c3, c4, hbad⟩, hb9⟩ hK
    have HN9 := HN.out
    have HE : Hid (errI gy fr (t.heads 1 0) = if longB gy fr (t.heads 1 0) then 2 else 0) := by show _ = _; unfold errI; rw [hbad]; simp
    obtain ⟨r9, hr9⟩ : ∃ r : Int, (if longB gy fr (t.heads 1 0) then 2 else 0) = r := ⟨_, rfl⟩
    rw [hr9] at HE c4
    have q4 := c4.cell 0
    have q3 := c3.cell 0
    have f3 := c3.frozen 0
    clear hr9
    gi_wp2
    have s3 := c3.set 0 (.int .i64 r9)
    have sb : Below N w (W.setCell ⟨N + 1 + 1 + 1, 0, none⟩ (.int .i64 r9)) := bset hb9 (by omega) _
    have hK' := (KeepsOthers.setCell W ⟨N + 1 + 1 + 1, 0, none⟩ (.int .i64 r9)).same D _ hK rfl
    generalize W.setCell ⟨N + 1 + 1 + 1, 0, none⟩ (.int .i64 r9) = W3 at *
    refine ⟨by simp, .inl ⟨_, _, rfl, run_takeDeferred hK', ?_⟩⟩
    have e1 : (W3.putObj D (.deferred none)).cell? ⟨N + 1 + 1 + 1, 0, none⟩ = some (.int .i64 r9) := (s3.put (.deferred none) hK' rfl).cell 0
    refine ⟨.int .i64 r9, by simp [results, Try.f83, go_sem, e1], by rw [HE.out], ?_⟩
    rw [HN.out]
    exact sb.trans (belowK_b (w := W0) (by omega) W3 D _ _ hD hK' rfl rfl)
  case stop =>
    rintro D c pre W hD hpre ⟨⟨rfl, c3, hbad⟩, hb9⟩ hK
    have HN9 := HN.out
    have hr : errI gy fr (t.heads 1 0) = 1 := by unfold errI; rw [badB_prefix hbad hpre]; rfl
    have HR : Hid _ := hr
    have q3 := c3.cell 0
    clear hr
    gi_wp2
    refine ⟨by simp, .inl ⟨_, _, rfl, run_takeDeferred hK, ?_⟩⟩
    have e1 : (W.putObj D (.deferred none)).cell? ⟨N + 1 + 1 + 1, 0, none⟩ = some (.int .i64 1) := (c3.put (.deferred none) hK rfl).cell 0
    refine ⟨.int .i64 1, by simp [results, Try.f83, go_sem, e1], by rw [HR.out], ?_⟩
    rw [HN.out]
    exact hb9.trans (belowK_b (w := W0) (by omega) W D _ _ hD hK rfl rfl)

end Go.Proofs.Ytheokboggjnenaa
