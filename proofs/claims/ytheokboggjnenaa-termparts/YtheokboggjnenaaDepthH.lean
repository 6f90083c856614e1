/-
  The contract of term.Depth.
-/
import Derived.Test.YtheokboggjnenaaSizeH
namespace Go.Proofs.Ytheokboggjnenaa
open Go Go.RowKit Go.Shelf

attribute [local go_sem] Oper.semAt_some

def IDep (w : World) (N : Nat) (l : List Hd) (W : World) : Prop := Blk W (N + 1) 3 #[.int .i64 (hmax l : Int)] ∧ Below N w W

set_option maxRecDepth 100000 in
set_option maxHeartbeats 2000000 in
theorem DepthH_calls (t : Tm) (ok : Nat → Prop) (sb sl : Value) (w : World) (hb : Holds w ok t.binds sb) (hh : HoldsT w ok t.args sl) (hsz : t.total ≤ 900000) :
    Calls Try.prog 16 #[tmv sb t.kind t.idx sl] w fun e w' => e = .returned (.int .i64 (t.depth : Int)) ∧ Below w.heap.size w w' := by
  refine (callsIn_wide (n := 9)).1 ?_
  have hf56 : Fence.wide.fn 56 := trivial
  obtain ⟨N, hN⟩ : ∃ N, w.heap.size = N := ⟨_, rfl⟩
  have hst := t.size_le_total
  have hb0 : Holds w (fun b => b < N) t.binds sb := hb.mono fun b h _ => by omega
  have hh0 : HoldsT w (fun b => b < N) t.args sl := hh.mono fun b h _ => by omega
  obtain ⟨x1, x2, hsb, _⟩ := hb.shape
  obtain ⟨x3, x4, hsl, _⟩ := hh.shape
  generalize t.binds.length = bn at hsb
  generalize t.args.length = an at hsl
  subst hsb
  subst hsl
  refine callsIn_of_wp_marks Try.func16 rfl trivial ?_ rfl
  simp only [Try.ntmps16, List.size_toArray, List.length_cons, List.length_nil, Nat.reduceAdd, Nat.reduceSub, Array.replicate_succ, Array.replicate_zero, List.push_toArray, List.append_toArray, List.nil_append, List.cons_append]
  gi_wp2_with (gi_at_call 56; refine (heads_in _ _ _ _ _ _).mono ?_; rintro e w' ⟨rfl, rfl⟩)
  obtain ⟨W0, hW0⟩ : ∃ W0, ((w.alloc (.cells #[.slice x1 bn x2, .int .i64 t.kind, .int .i64 t.idx, .slice x3 an x4] 34)).alloc (.cells #[.int .i64 0] 3)).alloc (.cells #[.slice x1 bn x2, .int .i64 t.kind, .int .i64 t.idx, .slice x3 an x4] 34) = W0 := ⟨_, rfl⟩
  have b0 : Blk W0 (N) 34 #[.slice x1 bn x2, .int .i64 t.kind, .int .i64 t.idx, .slice x3 an x4] := by rw [← hW0]; exact ((Blk.new' _ (N) 34 _ (by simp [hN])).alloc _).alloc _
  have b1 : Blk W0 (N + 1) 3 #[.int .i64 0] := by rw [← hW0]; exact (Blk.new' _ (N + 1) 3 _ (by simp [hN])).alloc _
  have b2 : Blk W0 (N + 1 + 1) 34 #[.slice x1 bn x2, .int .i64 t.kind, .int .i64 t.idx, .slice x3 an x4] := by rw [← hW0]; exact Blk.new' _ (N + 1 + 1) 34 _ (by simp [hN])
  have hsz0 : W0.heap.size = N + 3 := by rw [← hW0]; simp [hN]
  have hbl : Below N w W0 := by rw [← hW0]; exact (((Below.refl N w).alloc (by omega) _).alloc (by simp; omega) _).alloc (by simp; omega) _
  rw [hW0]
  have HN : Hid (w.heap.size = N) := hN
  clear hW0 hN
  refine range_free rfl (by omega) (gf := 93) (lb := #[.pointer (some ⟨N + 1 + 1, 0, none⟩)]) rfl trivial (enters_of Try.func93 (by kernel_rfl) rfl)
    (heads_stops w (fun b => b < N) N (9 - 1) (N + 1 + 1) (fun _ h => h) t _ _ W0 b2 hb0 hh0 hsz (by omega) (KeepP.of_below (by rw [HN.out]; exact hbl))) (Below.refl _ _) KpT.trans (fun W l o o' hl => KpT.put (n0 := N) (fun _ h => h) W l o o' (by omega)) (fun _ => rfl)
    (IDep w N) (fun _ _ _ => False) (FreeFrom.and (blk_free (by omega)) (freeFrom_below (by rw [HN.out]; exact Nat.le_refl _) (by omega))) (fun _ => false_free) ⟨b1, hbl⟩ ?round ?done ?stop
  case round =>
    rintro l m pre x W K hW hl ⟨c1, hb9⟩ hlen hGx hK
    have HN9 := HN.out
    clear hGx
    obtain ⟨X, hX⟩ : ∃ X, W.heap.size = X := ⟨_, rfl⟩
    obtain ⟨Wa, hWa⟩ : ∃ Wa, W.alloc (.cells #[.int .i64 (x.deep : Int), .int .i64 (x.around : Int)] 99) = Wa := ⟨_, rfl⟩
    have d0 : Blk Wa (X) 99 #[.int .i64 (x.deep : Int), .int .i64 (x.around : Int)] := by rw [← hWa]; exact Blk.new' _ (X) 99 _ (by simp [hX])
    have ka : KpT (fun b => b < N) W Wa := by rw [← hWa]; exact KpT.alloc W _
    have kf : KeepsFrom W0.heap.size W Wa := by rw [← hWa]; exact (KeepsOthers.alloc W _).from _
    have hba : Below W.heap.size W Wa := by rw [← hWa]; exact (Below.refl _ W).alloc (Nat.le_refl _) _
    have c1 := c1.below hba c1.lt
    have hb9 := hb9.trans (hba.mono (by omega))
    have HWa : Hid _ := hWa
    clear hWa hba
    gi_wp2
    rw [HWa.out]
    clear HWa
    refine hK _ _ kf (fun o o' ho hc _ => ?_)
    have k1 : KpT (fun b => b < N) W (Wa.putObj l o') := ka.trans (KpT.put (n0 := N) (fun _ h => h) Wa l o o' (by omega) ho hc)
    have c1 := c1.put o' ho hc
    have d0 := d0.put o' ho hc
    have hb9 : Below N w (Wa.putObj l o') := (freeFrom_below (β := Unit) (w0 := w) (n0 := N) (B := N) (by omega) (Nat.le_refl _)).put (s := ()) (by omega) ho hc o' hb9
    clear hK ho hc ka kf
    generalize Wa.putObj l o' = W2 at *
    have HL : Hid (hmax (pre ++ [x]) = max (hmax pre) x.deep) := by show _ = _; rw [hmax_append]; simp [hmax]
    have q0 := c1.cell 0
    have f0 := c1.frozen 0
    have q1 := d0.cell 0
    gi_wp2
    all_goals
      refine ⟨(KeepsOthers.setCell _ _ _).from _, k1.trans (KpT.set (n0 := N) (fun _ h => h) c1 (by omega) (by decide) (by decide) (by decide) 0 _), ?_, bset hb9 (by omega) _⟩
      first
        | (rw [show hmax (pre ++ [x]) = x.deep by rw [HL.out]; omega]; exact c1.set 0 _)
        | (rw [show hmax (pre ++ [x]) = hmax pre by rw [HL.out]; omega]; exact c1.set 0 _)
  case done =>
    rintro D ys W hD rfl ⟨c1, hb9⟩ hK
    have HN9 := HN.out
    have hd := hmax_heads t 1 0 (by omega)
    rw [show hmax (t.heads 1 0) = t.depth by omega] at c1
    have q0 := c1.cell 0
    gi_wp2
    refine ⟨by simp, .inl ⟨_, _, rfl, run_takeDeferred hK, ?_⟩⟩
    refine ⟨.int .i64 (t.depth : Int), by simp [results, go_sem, Try.f16], rfl, ?_⟩
    rw [HN.out]
    exact hb9.trans (belowK_b (w := W0) (by omega) W D _ _ hD hK rfl rfl)
  case stop =>
    rintro D c pre W hD hpre h
    have HN9 := HN.out
    exact h.elim

end Go.Proofs.Ytheokboggjnenaa
