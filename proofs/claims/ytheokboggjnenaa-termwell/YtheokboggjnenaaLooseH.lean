/-
  The contract of term.Loose.
-/
import Derived.Test.YtheokboggjnenaaSizeH
import Derived.Test.YtheokboggjnenaaRightH
import Derived.Test.YtheokboggjnenaaVarE
import Derived.Test.YtheokboggjnenaaRng
namespace Go.Proofs.Ytheokboggjnenaa
open Go Go.RowKit Go.Shelf

attribute [local go_sem] Oper.semAt_some

theorem outs_calls (p : Hd) (hi : fits p.idx) (w : World) :
    Calls Try.prog 57 #[hv p.kind p.idx, .int .i64 (p.around : Int)] w fun e w' => e = .returned (.tuple #[.int .i64 (p.out.getD 0), .bool p.out.isSome]) ∧ Below w.heap.size w w' := by
  by_cases h : p.kind = 0 ∧ (p.around : Int) ≤ p.idx
  · have e : p.out = some (p.idx - p.around) := by unfold Hd.out; rw [if_pos h]
    rw [e, h.1]
    exact outside_out p.idx p.around h.2 hi.2 w
  · have e : p.out = none := by unfold Hd.out; rw [if_neg h]
    rw [e]
    exact outside_in p.kind p.idx p.around (by by_cases h2 : p.kind = 0; · right; have := fun h3 => h ⟨h2, h3⟩; omega
                                               · exact .inl h2) w
def ILoose (w : World) (N : Nat) (l : List Hd) (W : World) : Prop := Blk W (N + 1) 3 #[.int .i64 (lmax l)] ∧ Below N w W

set_option maxRecDepth 100000 in
set_option maxHeartbeats 2000000 in
theorem LooseH_calls (t : Tm) (ok : Nat → Prop) (sb sl : Value) (w : World) (hb : Holds w ok t.binds sb) (hh : HoldsT w ok t.args sl) (hsz : t.total ≤ 900000) (hrg : t.rng) :
    Calls Try.prog 18 #[tmv sb t.kind t.idx sl] w fun e w' => e = .returned (.int .i64 (looseI t)) ∧ Below w.heap.size w w' := by
  refine (callsIn_wide (n := 9)).1 ?_
  have hf56 : Fence.wide.fn 56 := trivial
  obtain ⟨N, hN⟩ : ∃ N, w.heap.size = N := ⟨_, rfl⟩
  have hst := t.size_le_total
  have hb0 : Holds w (fun b => b < N) t.binds sb := hb.mono fun b h _ => by omega
  have hh0 : HoldsT w (fun b => b < N) t.args sl := hh.mono fun b h _ => by omega
  obtain ⟨x1, x2, hsb, _⟩ := hb.shape
  obtain ⟨x3, x4, hsl, _⟩ := hh.shape
  generalize t.binds.length = bn at hsb
  generalize t.args.length = an at hsl
  subst hsb
  subst hsl
  refine callsIn_of_wp_marks Try.func18 rfl trivial ?_ rfl
  simp only [Try.ntmps18, List.size_toArray, List.length_cons, List.length_nil, Nat.reduceAdd, Nat.reduceSub, Array.replicate_succ, Array.replicate_zero, List.push_toArray, List.append_toArray, List.nil_append, List.cons_append]
  have hf57 : Fence.wide.fn 57 := trivial
  gi_wp2_with (gi_at_call 56; refine (heads_in _ _ _ _ _ _).mono ?_; rintro e w' ⟨rfl, rfl⟩)
  obtain ⟨W0, hW0⟩ : ∃ W0, ((w.alloc (.cells #[.slice x1 bn x2, .int .i64 t.kind, .int .i64 t.idx, .slice x3 an x4] 34)).alloc (.cells #[.int .i64 0] 3)).alloc (.cells #[.slice x1 bn x2, .int .i64 t.kind, .int .i64 t.idx, .slice x3 an x4] 34) = W0 := ⟨_, rfl⟩
  have b0 : Blk W0 (N) 34 #[.slice x1 bn x2, .int .i64 t.kind, .int .i64 t.idx, .slice x3 an x4] := by rw [← hW0]; exact ((Blk.new' _ (N) 34 _ (by simp [hN])).alloc _).alloc _
  have b1 : Blk W0 (N + 1) 3 #[.int .i64 0] := by rw [← hW0]; exact (Blk.new' _ (N + 1) 3 _ (by simp [hN])).alloc _
  have b2 : Blk W0 (N + 1 + 1) 34 #[.slice x1 bn x2, .int .i64 t.kind, .int .i64 t.idx, .slice x3 an x4] := by rw [← hW0]; exact Blk.new' _ (N + 1 + 1) 34 _ (by simp [hN])
  have hsz0 : W0.heap.size = N + 3 := by rw [← hW0]; simp [hN]
  have hbl : Below N w W0 := by rw [← hW0]; exact (((Below.refl N w).alloc (by omega) _).alloc (by simp; omega) _).alloc (by simp; omega) _
  rw [hW0]
  have HN : Hid (w.heap.size = N) := hN
  clear hW0 hN
  refine range_free rfl (by omega) (gf := 93) (lb := #[.pointer (some ⟨N + 1 + 1, 0, none⟩)]) rfl trivial (enters_of Try.func93 (by kernel_rfl) rfl)
    (heads_stops w (fun b => b < N) N (9 - 1) (N + 1 + 1) (fun _ h => h) t _ _ W0 b2 hb0 hh0 hsz (by omega) (KeepP.of_below (by rw [HN.out]; exact hbl))) (Below.refl _ _) KpT.trans (fun W l o o' hl => KpT.put (n0 := N) (fun _ h => h) W l o o' (by omega)) (fun _ => rfl)
    (ILoose w N) (fun _ _ _ => False) (FreeFrom.and (blk_free (by omega)) (freeFrom_below (by rw [HN.out]; exact Nat.le_refl _) (by omega))) (fun _ => false_free) ⟨b1, hbl⟩ ?round ?done ?stop
  case round =>
    rintro l m pre x W K hW hl ⟨c1, hb9⟩ hlen hGx hK
    have HN9 := HN.out
    have hfx := rng_heads t hrg 1 0 x hGx
    have hax := around_heads t 1 0 x hGx
    clear hGx
    obtain ⟨X, hX⟩ : ∃ X, W.heap.size = X := ⟨_, rfl⟩
    obtain ⟨Wa, hWa⟩ : ∃ Wa, (W.alloc (.cells #[.int .i64 (x.deep : Int), .int .i64 (x.around : Int)] 99)).alloc (.cells #[.int .i64 x.kind, .int .i64 x.idx] 31) = Wa := ⟨_, rfl⟩
    have d0 : Blk Wa (X) 99 #[.int .i64 (x.deep : Int), .int .i64 (x.around : Int)] := by rw [← hWa]; exact (Blk.new' _ (X) 99 _ (by simp [hX])).alloc _
    have d1 : Blk Wa (X + 1) 31 #[.int .i64 x.kind, .int .i64 x.idx] := by rw [← hWa]; exact Blk.new' _ (X + 1) 31 _ (by simp [hX])
    have ka : KpT (fun b => b < N) W Wa := by rw [← hWa]; exact (KpT.alloc W _).trans (KpT.alloc _ _)
    have kf : KeepsFrom W0.heap.size W Wa := by rw [← hWa]; exact ((KeepsOthers.alloc W _).from _).trans ((KeepsOthers.alloc _ _).from _)
    have hba : Below W.heap.size W Wa := by rw [← hWa]; exact ((Below.refl _ W).alloc (Nat.le_refl _) _).alloc (by simp) _
    have c1 := c1.below hba c1.lt
    have hb9 := hb9.trans (hba.mono (by omega))
    have HWa : Hid _ := hWa
    clear hWa hba
    gi_wp2
    rw [HWa.out]
    clear HWa
    refine hK _ _ kf (fun o o' ho hc _ => ?_)
    have k1 : KpT (fun b => b < N) W (Wa.putObj l o') := ka.trans (KpT.put (n0 := N) (fun _ h => h) Wa l o o' (by omega) ho hc)
    have c1 := c1.put o' ho hc
    have d0 := d0.put o' ho hc
    have d1 := d1.put o' ho hc
    have hb9 : Below N w (Wa.putObj l o') := (freeFrom_below (β := Unit) (w0 := w) (n0 := N) (B := N) (by omega) (Nat.le_refl _)).put (s := ()) (by omega) ho hc o' hb9
    clear hK ho hc ka kf
    generalize Wa.putObj l o' = W2 at *
    have hlz := lmax_nonneg pre
    have HL : Hid (lmax (pre ++ [x]) = max (lmax pre) x.lo) := lmax_snoc pre x
    have hcall := outs_calls x hfx.2 W2
    obtain ⟨mv, hmv⟩ : ∃ v, lmax pre = v := ⟨_, rfl⟩
    rw [hmv] at c1 hlz
    have HM : Hid _ := hmv
    have hxlo : Hid (x.lo = match x.out with | some i => min i 1000 + 1 | none => 0) := rfl
    have hxo : Hid (x.out = if x.kind = 0 ∧ (x.around : Int) ≤ x.idx then some (x.idx - x.around) else none) := rfl
    have q0 := d0.cell 1
    have q1 := d1.cell 0
    have q2 := d1.cell 1
    clear hmv
    gi_wp2_with fail
    refine ⟨(fun h => by cases h), (CallsIn.inRound l (callsIn_wide.2 hcall)).mono ?_⟩
    rintro e w3 ⟨rfl, hbw⟩
    have c3 := c1.below hbw c1.lt
    have hb3 : Below N w w3 := hb9.trans (hbw.mono (by have := c1.lt; omega))
    have k3 := k1.trans (KpT.of_below hbw)
    have kf3 : KeepsFrom W0.heap.size W2 w3 := ⟨hbw.size, fun k _ _ hk _ => (hbw.block k (Array.getElem?_eq_some_iff.1 hk).1).trans hk⟩
    clear hcall c1 hb9 k1 d0 d1 q0 q1 q2 hbw
    rw [hsz0] at kf3
    cases hou : x.out with
    | none =>
      have HO : Hid (lmax (pre ++ [x]) = mv) := by show _ = _; rw [HL.out, hxlo.out, hou, HM.out]; simp only; omega
      clear HL hxlo hxo HM
      simp only [Option.getD_none, Option.isSome_none]
      gi_wp2
      exact ⟨hsz0 ▸ kf3, k3, by rw [HO.out]; exact c3, hb3⟩
    | some i =>
      have hio : 0 ≤ i ∧ i ≤ 9223372036854775807 := by
        have h9 := hxo.out
        rw [hou] at h9
        have h8 := hfx.2.2
        by_cases h7 : x.kind = 0 ∧ (x.around : Int) ≤ x.idx
        · rw [if_pos h7] at h9
          simp at h9
          omega
        · rw [if_neg h7] at h9
          cases h9
      have HO : Hid (lmax (pre ++ [x]) = max mv (min i 1000 + 1)) := by show _ = _; rw [HL.out, hxlo.out, hou, HM.out]
      clear HL hxlo hxo HM
      simp only [Option.getD_some, Option.isSome_some]
      have q0 := c3.cell 0
      have f0 := c3.frozen 0
      gi_wp2
      all_goals
        refine ⟨kf3.trans ((KeepsOthers.setCell _ _ _).from _), k3.trans (KpT.set (n0 := N) (fun _ h => h) c3 (by omega) (by decide) (by decide) (by decide) 0 _), ?_, bset hb3 (by omega) _⟩
        first
          | (rw [show lmax (pre ++ [x]) = 1001 by rw [HO.out]; omega]; exact c3.set 0 _)
          | (rw [show lmax (pre ++ [x]) = i + 1 by rw [HO.out]; omega]; exact c3.set 0 _)
          | (rw [show lmax (pre ++ [x]) = mv by rw [HO.out]; omega]; exact c3.set 0 _)
  case done =>
    rintro D ys W hD rfl ⟨c1, hb9⟩ hK
    have HN9 := HN.out
    have HLI : Hid (lmax (t.heads 1 0) = looseI t) := rfl
    have q0 := c1.cell 0
    rw [HLI.out] at q0
    gi_wp2
    refine ⟨by simp, .inl ⟨_, _, rfl, run_takeDeferred hK, ?_⟩⟩
    refine ⟨.int .i64 (looseI t), by simp [results, go_sem, Try.f18], rfl, ?_⟩
    rw [HN.out]
    exact hb9.trans (belowK_b (w := W0) (by omega) W D _ _ hD hK rfl rfl)
  case stop =>
    rintro D c pre W hD hpre h
    have HN9 := HN.out
    exact h.elim

end Go.Proofs.Ytheokboggjnenaa
