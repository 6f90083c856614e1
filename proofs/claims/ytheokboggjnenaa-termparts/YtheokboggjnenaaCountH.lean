/-
  The contract of term.Count.
-/
import Derived.Test.YtheokboggjnenaaSizeH
import Derived.Test.YtheokboggjnenaaRightH
import Derived.Test.YtheokboggjnenaaVarE
import Derived.Test.YtheokboggjnenaaRefHeads
namespace Go.Proofs.Ytheokboggjnenaa
open Go Go.RowKit Go.Shelf

attribute [local go_sem] Oper.semAt_some

theorem seen_vis (p : Hd) : seen p.kind p.idx p.around = match p.vis with | some h => (h.1, h.2, true) | none => (0, 0, false) := by
  unfold Hd.vis
  by_cases h : p.kind = 0
  · by_cases h2 : p.idx < p.around
    · simp [seen, h, h2]; rw [if_neg (by omega)]
    · simp [seen, h, h2]; rw [if_pos (by omega)]
  · simp [seen, h]
theorem viss_snoc (a : List Hd) (p : Hd) : viss (a ++ [p]) = viss a ++ (match p.vis with | some i => [i] | none => []) := by
  rw [viss_append, viss_cons]
  cases p.vis <;> simp [viss]
def ICount (w : World) (N : Nat) (hk hi : Int) (l : List Hd) (W : World) : Prop := (Blk W (N + 1) 31 #[.int .i64 hk, .int .i64 hi] ∧ Blk W (N + 1 + 1) 3 #[.int .i64 ((viss l).count (hk, hi) : Nat)]) ∧ Below N w W

set_option maxRecDepth 100000 in
set_option maxHeartbeats 2000000 in
theorem CountH_calls (hk hi : Int) (t : Tm) (ok : Nat → Prop) (sb sl : Value) (w : World) (hb : Holds w ok t.binds sb) (hh : HoldsT w ok t.args sl) (hsz : t.total ≤ 900000) (hrg : t.rng) :
    Calls Try.prog 23 #[tmv sb t.kind t.idx sl, hv hk hi] w fun e w' => e = .returned (.int .i64 ((viss (t.heads 1 0)).count (hk, hi) : Nat)) ∧ Below w.heap.size w w' := by
  refine (callsIn_wide (n := 9)).1 ?_
  have hf56 : Fence.wide.fn 56 := trivial
  obtain ⟨N, hN⟩ : ∃ N, w.heap.size = N := ⟨_, rfl⟩
  have hst := t.size_le_total
  have hb0 : Holds w (fun b => b < N) t.binds sb := hb.mono fun b h _ => by omega
  have hh0 : HoldsT w (fun b => b < N) t.args sl := hh.mono fun b h _ => by omega
  obtain ⟨x1, x2, hsb, _⟩ := hb.shape
  obtain ⟨x3, x4, hsl, _⟩ := hh.shape
  generalize t.binds.length = bn at hsb
  generalize t.args.length = an at hsl
  subst hsb
  subst hsl
  refine callsIn_of_wp_marks Try.func23 rfl trivial ?_ rfl
  simp only [Try.ntmps23, List.size_toArray, List.length_cons, List.length_nil, Nat.reduceAdd, Nat.reduceSub, Array.replicate_succ, Array.replicate_zero, List.push_toArray, List.append_toArray, List.nil_append, List.cons_append]
  have hf62 : Fence.wide.fn 62 := trivial
  gi_wp2_with (gi_at_call 56; refine (heads_in _ _ _ _ _ _).mono ?_; rintro e w' ⟨rfl, rfl⟩)
  obtain ⟨W0, hW0⟩ : ∃ W0, (((w.alloc (.cells #[.slice x1 bn x2, .int .i64 t.kind, .int .i64 t.idx, .slice x3 an x4] 34)).alloc (.cells #[.int .i64 hk, .int .i64 hi] 31)).alloc (.cells #[.int .i64 0] 3)).alloc (.cells #[.slice x1 bn x2, .int .i64 t.kind, .int .i64 t.idx, .slice x3 an x4] 34) = W0 := ⟨_, rfl⟩
  have b0 : Blk W0 (N) 34 #[.slice x1 bn x2, .int .i64 t.kind, .int .i64 t.idx, .slice x3 an x4] := by rw [← hW0]; exact (((Blk.new' _ (N) 34 _ (by simp [hN])).alloc _).alloc _).alloc _
  have b1 : Blk W0 (N + 1) 31 #[.int .i64 hk, .int .i64 hi] := by rw [← hW0]; exact ((Blk.new' _ (N + 1) 31 _ (by simp [hN])).alloc _).alloc _
  have b2 : Blk W0 (N + 1 + 1) 3 #[.int .i64 0] := by rw [← hW0]; exact (Blk.new' _ (N + 1 + 1) 3 _ (by simp [hN])).alloc _
  have b3 : Blk W0 (N + 1 + 1 + 1) 34 #[.slice x1 bn x2, .int .i64 t.kind, .int .i64 t.idx, .slice x3 an x4] := by rw [← hW0]; exact Blk.new' _ (N + 1 + 1 + 1) 34 _ (by simp [hN])
  have hsz0 : W0.heap.size = N + 4 := by rw [← hW0]; simp [hN]
  have hbl : Below N w W0 := by rw [← hW0]; exact ((((Below.refl N w).alloc (by omega) _).alloc (by simp; omega) _).alloc (by simp; omega) _).alloc (by simp; omega) _
  rw [hW0]
  have HN : Hid (w.heap.size = N) := hN
  clear hW0 hN
  refine range_free rfl (by omega) (gf := 93) (lb := #[.pointer (some ⟨N + 1 + 1 + 1, 0, none⟩)]) rfl trivial (enters_of Try.func93 (by kernel_rfl) rfl)
    (heads_stops w (fun b => b < N) N (9 - 1) (N + 1 + 1 + 1) (fun _ h => h) t _ _ W0 b3 hb0 hh0 hsz (by omega) (KeepP.of_below (by rw [HN.out]; exact hbl))) (Below.refl _ _) KpT.trans (fun W l o o' hl => KpT.put (n0 := N) (fun _ h => h) W l o o' (by omega)) (fun _ => rfl)
    (ICount w N hk hi) (fun _ _ _ => False) (FreeFrom.and (FreeFrom.and (blk_free (by omega)) (blk_free (by omega))) (freeFrom_below (by rw [HN.out]; exact Nat.le_refl _) (by omega))) (fun _ => false_free) ⟨⟨b1, b2⟩, hbl⟩ ?round ?done ?stop
  case round =>
    rintro l m pre x W K hW hl ⟨⟨c0, c1⟩, hb9⟩ hlen hGx hK
    have HN9 := HN.out
    have hfx := rng_heads t hrg 1 0 x hGx
    have hax := around_heads t 1 0 x hGx
    clear hGx
    obtain ⟨X, hX⟩ : ∃ X, W.heap.size = X := ⟨_, rfl⟩
    obtain ⟨Wa, hWa⟩ : ∃ Wa, (W.alloc (.cells #[.int .i64 (x.deep : Int), .int .i64 (x.around : Int)] 99)).alloc (.cells #[.int .i64 x.kind, .int .i64 x.idx] 31) = Wa := ⟨_, rfl⟩
    have d0 : Blk Wa (X) 99 #[.int .i64 (x.deep : Int), .int .i64 (x.around : Int)] := by rw [← hWa]; exact (Blk.new' _ (X) 99 _ (by simp [hX])).alloc _
    have d1 : Blk Wa (X + 1) 31 #[.int .i64 x.kind, .int .i64 x.idx] := by rw [← hWa]; exact Blk.new' _ (X + 1) 31 _ (by simp [hX])
    have ka : KpT (fun b => b < N) W Wa := by rw [← hWa]; exact (KpT.alloc W _).trans (KpT.alloc _ _)
    have kf : KeepsFrom W0.heap.size W Wa := by rw [← hWa]; exact ((KeepsOthers.alloc W _).from _).trans ((KeepsOthers.alloc _ _).from _)
    have hba : Below W.heap.size W Wa := by rw [← hWa]; exact ((Below.refl _ W).alloc (Nat.le_refl _) _).alloc (by simp) _
    have c0 := c0.below hba c0.lt
    have c1 := c1.below hba c1.lt
    have hb9 := hb9.trans (hba.mono (by omega))
    have HWa : Hid _ := hWa
    clear hWa hba
    gi_wp2
    rw [HWa.out]
    clear HWa
    refine hK _ _ kf (fun o o' ho hc _ => ?_)
    have k1 : KpT (fun b => b < N) W (Wa.putObj l o') := ka.trans (KpT.put (n0 := N) (fun _ h => h) Wa l o o' (by omega) ho hc)
    have c0 := c0.put o' ho hc
    have c1 := c1.put o' ho hc
    have d0 := d0.put o' ho hc
    have d1 := d1.put o' ho hc
    have hb9 : Below N w (Wa.putObj l o') := (freeFrom_below (β := Unit) (w0 := w) (n0 := N) (B := N) (by omega) (Nat.le_refl _)).put (s := ()) (by omega) ho hc o' hb9
    clear hK ho hc ka kf
    generalize Wa.putObj l o' = W2 at *
    have hcl : (viss pre).count (hk, hi) ≤ 900000 := Nat.le_trans List.count_le_length (Nat.le_trans (viss_length pre) (by omega))
    have HL : Hid (viss (pre ++ [x]) = viss pre ++ (match x.vis with | some i => [i] | none => [])) := viss_snoc pre x
    have hcall := look_calls x.kind x.idx x.around hfx.2.2 W2
    rw [seen_vis] at hcall
    obtain ⟨mv, hmv⟩ : ∃ v, (viss pre).count (hk, hi) = v := ⟨_, rfl⟩
    rw [hmv] at c1 hcl
    have HM : Hid _ := hmv
    have q0 := d0.cell 1
    have q1 := d1.cell 0
    have q2 := d1.cell 1
    clear hmv
    gi_wp2_with fail
    refine ⟨(fun h => by cases h), (CallsIn.inRound l (callsIn_wide.2 hcall)).mono ?_⟩
    rintro e w3 ⟨rfl, hbw⟩
    have c3 := c1.below hbw c1.lt
    have c4 := c0.below hbw c0.lt
    have hb3 : Below N w w3 := hb9.trans (hbw.mono (by have := c1.lt; omega))
    have k3 := k1.trans (KpT.of_below hbw)
    have kf3 : KeepsFrom W0.heap.size W2 w3 := ⟨hbw.size, fun k _ _ hk _ => (hbw.block k (Array.getElem?_eq_some_iff.1 hk).1).trans hk⟩
    clear hcall c0 c1 hb9 k1 d0 d1 q0 q1 q2 hbw
    obtain ⟨Y, hY⟩ : ∃ Y, w3.heap.size = Y := ⟨_, rfl⟩
    have hYN : N + 1 + 1 < Y := by rw [← hY]; exact c3.lt
    have fin : ∀ (a b : Int) (n : Nat), (viss (pre ++ [x])).count (hk, hi) = n → n = mv → KeepsFrom W0.heap.size W2 (w3.alloc (.cells #[.int .i64 a, .int .i64 b] 31)) ∧ KpT (fun b => b < N) W (w3.alloc (.cells #[.int .i64 a, .int .i64 b] 31)) ∧ ICount w N hk hi (pre ++ [x]) (w3.alloc (.cells #[.int .i64 a, .int .i64 b] 31)) := fun a b n h1 h2 =>
      ⟨kf3.trans ((KeepsOthers.alloc _ _).from _), k3.trans (KpT.alloc _ _), ⟨c4.alloc _, by rw [h1, h2]; exact c3.alloc _⟩, hb3.alloc (by omega) _⟩
    have fin2 : ∀ (a b : Int) (n : Nat), (viss (pre ++ [x])).count (hk, hi) = n → n = mv + 1 → KeepsFrom W0.heap.size W2 ((w3.setCell ⟨N + 1 + 1, 0, none⟩ (.int .i64 ((mv : Int) + 1))).alloc (.cells #[.int .i64 a, .int .i64 b] 31)) ∧ KpT (fun b => b < N) W ((w3.setCell ⟨N + 1 + 1, 0, none⟩ (.int .i64 ((mv : Int) + 1))).alloc (.cells #[.int .i64 a, .int .i64 b] 31)) ∧ ICount w N hk hi (pre ++ [x]) ((w3.setCell ⟨N + 1 + 1, 0, none⟩ (.int .i64 ((mv : Int) + 1))).alloc (.cells #[.int .i64 a, .int .i64 b] 31)) := fun a b n h1 h2 =>
      ⟨(kf3.trans ((KeepsOthers.setCell _ _ _).from _)).trans ((KeepsOthers.alloc _ _).from _), (k3.trans (KpT.set (n0 := N) (fun _ h => h) c3 (by omega) (by decide) (by decide) (by decide) 0 _)).trans (KpT.alloc _ _), ⟨(c4.other (by omega) 0 _).alloc _, by rw [h1, h2]; exact (c3.set 0 _).alloc _⟩, (bset hb3 (by omega) _).alloc (by simp; omega) _⟩
    have FIN : Hid _ := fin
    have FIN2 : Hid _ := fin2
    clear fin fin2 k3 kf3 hb3
    cases hou : x.vis with
    | none =>
      have HO : Hid ((viss (pre ++ [x])).count (hk, hi) = mv) := by show _ = _; rw [HL.out, hou, ← HM.out]; simp
      clear HL HM
      simp only
      gi_wp2
      first | exact FIN.out _ _ _ HO.out rfl | (rw [← hsz0]; exact FIN.out _ _ _ HO.out rfl)
    | some h =>
      obtain ⟨xk, xi⟩ := h
      have HO : Hid ((viss (pre ++ [x])).count (hk, hi) = mv + if (xk, xi) = (hk, hi) then 1 else 0) := by show _ = _; rw [HL.out, hou, List.count_append, HM.out]; simp [List.count_cons]
      clear HL HM
      simp only
      have q3 := (c3.alloc (.cells #[.int .i64 xk, .int .i64 xi] 31)).cell 0
      have f3 := (c3.alloc (.cells #[.int .i64 xk, .int .i64 xi] 31)).frozen 0
      have q4 := (c4.alloc (.cells #[.int .i64 xk, .int .i64 xi] 31)).cell 0
      have q5 := (c4.alloc (.cells #[.int .i64 xk, .int .i64 xi] 31)).cell 1
      clear c3 c4
      by_cases e1 : xk = hk
      · subst e1
        by_cases e2 : xi = hi
        · subst e2
          have HO2 : Hid ((viss (pre ++ [x])).count (xk, xi) = mv + 1) := by show _ = _; rw [HO.out, if_pos rfl]
          clear HO
          gi_wp2
          first | exact FIN2.out _ _ _ HO2.out rfl | (rw [← hsz0]; exact FIN2.out _ _ _ HO2.out rfl)
        · have z1 : (xi == hi) = false := by simp [e2]
          have HO2 : Hid ((viss (pre ++ [x])).count (xk, hi) = mv) := by show _ = _; rw [HO.out, if_neg (by simp [e2])]; rfl
          clear HO e2
          gi_wp2
          first | exact FIN.out _ _ _ HO2.out rfl | (rw [← hsz0]; exact FIN.out _ _ _ HO2.out rfl)
      · have z1 : (xk == hk) = false := by simp [e1]
        have HO2 : Hid ((viss (pre ++ [x])).count (hk, hi) = mv) := by show _ = _; rw [HO.out, if_neg (by simp [e1])]; rfl
        clear HO e1
        gi_wp2
        first | exact FIN.out _ _ _ HO2.out rfl | (rw [← hsz0]; exact FIN.out _ _ _ HO2.out rfl)
  case done =>
    rintro D ys W hD rfl ⟨⟨c0, c1⟩, hb9⟩ hK
    have HN9 := HN.out
    have HLI : Hid _ := c1
    obtain ⟨r9, hr9⟩ : ∃ r, (viss (t.heads 1 0)).count (hk, hi) = r := ⟨_, rfl⟩
    rw [hr9] at c1
    have q0 := c1.cell 0
    gi_wp2
    refine ⟨by simp, .inl ⟨_, _, rfl, run_takeDeferred hK, ?_⟩⟩
    refine ⟨.int .i64 (r9 : Int), by simp [results, go_sem, Try.f23], by rw [hr9], ?_⟩
    rw [HN.out]
    exact hb9.trans (belowK_b (w := W0) (by omega) W D _ _ hD hK rfl rfl)
  case stop =>
    rintro D c pre W hD hpre h
    have HN9 := HN.out
    exact h.elim

end Go.Proofs.Ytheokboggjnenaa
