/-
  The contract of term.Right.
-/
import Derived.Test.YtheokboggjnenaaSizeH
namespace Go.Proofs.Ytheokboggjnenaa
open Go Go.RowKit Go.Shelf

attribute [local go_sem] Oper.semAt_some

theorem const_free {β : Type} {B : Nat} {p : β → Prop} : FreeFrom B (fun (s : β) (_ : World) => p s) := fun _ _ _ _ hs _ _ => hs

/-- Is a term neither too great nor too deep? -/
def rightTB (t : Tm) : Bool := decide (t.size ≤ 5000) && decide (t.depth ≤ 60)
def GoodT (l : List Hd) : Prop := l.length ≤ 5000 ∧ ∀ p ∈ l, p.deep ≤ 60
theorem GoodT.nil : GoodT [] := ⟨by simp, fun p hp => by cases hp⟩
theorem GoodT.snoc {l : List Hd} {p : Hd} (h : GoodT l) (h0 : l.length + 1 ≤ 5000) (h1 : p.deep ≤ 60) : GoodT (l ++ [p]) :=
  ⟨by simpa using h0, fun q hq => by
    rcases List.mem_append.1 hq with hq | hq
    · exact h.2 q hq
    · rw [List.mem_singleton.1 hq]; exact h1⟩
theorem GoodT.prefix {l m : List Hd} (h : GoodT m) (hp : l <+: m) : GoodT l := ⟨Nat.le_trans hp.length_le h.1, fun p hm => h.2 p (hp.subset hm)⟩
theorem rightT_iff (t : Tm) : rightTB t = true ↔ GoodT (t.heads 1 0) := by
  have hd := hmax_heads t 1 0 (by omega)
  unfold rightTB GoodT
  rw [Bool.and_eq_true, decide_eq_true_iff, decide_eq_true_iff, t.heads_length]
  constructor
  · rintro ⟨h1, h2⟩
    exact ⟨h1, fun p hp => by have := hmax_le hp; omega⟩
  · rintro ⟨h1, h2⟩
    refine ⟨h1, ?_⟩
    have := hmax_max _ 60 h2
    omega
theorem rightT_not {t : Tm} {l : List Hd} (h : ¬ GoodT l) (hp : l <+: t.heads 1 0) : rightTB t = false := by
  cases hr : rightTB t with
  | false => rfl
  | true => exact absurd (((rightT_iff t).1 hr).prefix hp) h

def IRightT (w : World) (N : Nat) (l : List Hd) (W : World) : Prop := (Blk W (N + 1) 4 #[.bool false] ∧ Blk W (N + 1 + 1) 3 #[.int .i64 (l.length : Int)] ∧ GoodT l) ∧ Below N w W
def XRightT (w : World) (N : Nat) (c : Code) (l : List Hd) (W : World) : Prop := (c = .ret ∧ Blk W (N + 1) 4 #[.bool false] ∧ ¬ GoodT l) ∧ Below N w W

set_option maxRecDepth 100000 in
set_option maxHeartbeats 2000000 in
theorem RightH_calls (t : Tm) (ok : Nat → Prop) (sb sl : Value) (w : World) (hb : Holds w ok t.binds sb) (hh : HoldsT w ok t.args sl) (hsz : t.total ≤ 900000) :
    Calls Try.prog 12 #[tmv sb t.kind t.idx sl] w fun e w' => e = .returned (.bool (rightTB t)) ∧ Below w.heap.size w w' := by
  refine (callsIn_wide (n := 9)).1 ?_
  have hf56 : Fence.wide.fn 56 := trivial
  obtain ⟨N, hN⟩ : ∃ N, w.heap.size = N := ⟨_, rfl⟩
  have hst := t.size_le_total
  have hb0 : Holds w (fun b => b < N) t.binds sb := hb.mono fun b h _ => by omega
  have hh0 : HoldsT w (fun b => b < N) t.args sl := hh.mono fun b h _ => by omega
  obtain ⟨x1, x2, hsb, _⟩ := hb.shape
  obtain ⟨x3, x4, hsl, _⟩ := hh.shape
  generalize t.binds.length = bn at hsb
  generalize t.args.length = an at hsl
  subst hsb
  subst hsl
  refine callsIn_of_wp_marks Try.func12 rfl trivial ?_ rfl
  simp only [Try.ntmps12, List.size_toArray, List.length_cons, List.length_nil, Nat.reduceAdd, Nat.reduceSub, Array.replicate_succ, Array.replicate_zero, List.push_toArray, List.append_toArray, List.nil_append, List.cons_append]
  gi_wp2_with (gi_at_call 56; refine (heads_in _ _ _ _ _ _).mono ?_; rintro e w' ⟨rfl, rfl⟩)
  obtain ⟨W0, hW0⟩ : ∃ W0, (((w.alloc (.cells #[.slice x1 bn x2, .int .i64 t.kind, .int .i64 t.idx, .slice x3 an x4] 34)).alloc (.cells #[.bool false] 4)).alloc (.cells #[.int .i64 0] 3)).alloc (.cells #[.slice x1 bn x2, .int .i64 t.kind, .int .i64 t.idx, .slice x3 an x4] 34) = W0 := ⟨_, rfl⟩
  have b0 : Blk W0 (N) 34 #[.slice x1 bn x2, .int .i64 t.kind, .int .i64 t.idx, .slice x3 an x4] := by rw [← hW0]; exact (((Blk.new' _ (N) 34 _ (by simp [hN])).alloc _).alloc _).alloc _
  have b1 : Blk W0 (N + 1) 4 #[.bool false] := by rw [← hW0]; exact ((Blk.new' _ (N + 1) 4 _ (by simp [hN])).alloc _).alloc _
  have b2 : Blk W0 (N + 1 + 1) 3 #[.int .i64 0] := by rw [← hW0]; exact (Blk.new' _ (N + 1 + 1) 3 _ (by simp [hN])).alloc _
  have b3 : Blk W0 (N + 1 + 1 + 1) 34 #[.slice x1 bn x2, .int .i64 t.kind, .int .i64 t.idx, .slice x3 an x4] := by rw [← hW0]; exact Blk.new' _ (N + 1 + 1 + 1) 34 _ (by simp [hN])
  have hsz0 : W0.heap.size = N + 4 := by rw [← hW0]; simp [hN]
  have hbl : Below N w W0 := by rw [← hW0]; exact ((((Below.refl N w).alloc (by omega) _).alloc (by simp; omega) _).alloc (by simp; omega) _).alloc (by simp; omega) _
  rw [hW0]
  have HN : Hid (w.heap.size = N) := hN
  clear hW0 hN
  refine range_free rfl (by omega) (gf := 93) (lb := #[.pointer (some ⟨N + 1 + 1 + 1, 0, none⟩)]) rfl trivial (enters_of Try.func93 (by kernel_rfl) rfl)
    (heads_stops w (fun b => b < N) N (9 - 1) (N + 1 + 1 + 1) (fun _ h => h) t _ _ W0 b3 hb0 hh0 hsz (by omega) (KeepP.of_below (by rw [HN.out]; exact hbl))) (Below.refl _ _) KpT.trans (fun W l o o' hl => KpT.put (n0 := N) (fun _ h => h) W l o o' (by omega)) (fun _ => rfl)
    (IRightT w N) (XRightT w N) (FreeFrom.and (FreeFrom.and (blk_free (by omega)) (FreeFrom.and (blk_free (by omega)) const_free)) (freeFrom_below (by rw [HN.out]; exact Nat.le_refl _) (by omega))) (fun c => FreeFrom.and (FreeFrom.and const_free (FreeFrom.and (blk_free (by omega)) const_free)) (freeFrom_below (by rw [HN.out]; exact Nat.le_refl _) (by omega))) ⟨⟨b1, b2, GoodT.nil⟩, hbl⟩ ?round ?done ?stop
  case round =>
    rintro l m pre x W K hW hl ⟨⟨c1, c2, hg⟩, hb9⟩ hlen hGx hK
    have HN9 := HN.out
    clear hGx
    obtain ⟨X, hX⟩ : ∃ X, W.heap.size = X := ⟨_, rfl⟩
    obtain ⟨Wa, hWa⟩ : ∃ Wa, W.alloc (.cells #[.int .i64 (x.deep : Int), .int .i64 (x.around : Int)] 99) = Wa := ⟨_, rfl⟩
    have d0 : Blk Wa (X) 99 #[.int .i64 (x.deep : Int), .int .i64 (x.around : Int)] := by rw [← hWa]; exact Blk.new' _ (X) 99 _ (by simp [hX])
    have ka : KpT (fun b => b < N) W Wa := by rw [← hWa]; exact KpT.alloc W _
    have kf : KeepsFrom W0.heap.size W Wa := by rw [← hWa]; exact (KeepsOthers.alloc W _).from _
    have hba : Below W.heap.size W Wa := by rw [← hWa]; exact (Below.refl _ W).alloc (Nat.le_refl _) _
    have c1 := c1.below hba c1.lt
    have c2 := c2.below hba c2.lt
    have hb9 := hb9.trans (hba.mono (by omega))
    have HWa : Hid _ := hWa
    clear hWa hba
    gi_wp2
    rw [HWa.out]
    clear HWa
    refine hK _ _ kf (fun o o' ho hc _ => ?_)
    have k1 : KpT (fun b => b < N) W (Wa.putObj l o') := ka.trans (KpT.put (n0 := N) (fun _ h => h) Wa l o o' (by omega) ho hc)
    have c1 := c1.put o' ho hc
    have c2 := c2.put o' ho hc
    have d0 := d0.put o' ho hc
    have hb9 : Below N w (Wa.putObj l o') := (freeFrom_below (β := Unit) (w0 := w) (n0 := N) (B := N) (by omega) (Nat.le_refl _)).put (s := ()) (by omega) ho hc o' hb9
    clear hK ho hc ka kf
    generalize Wa.putObj l o' = W2 at *
    obtain ⟨pn, hpn⟩ : ∃ n, pre.length = n := ⟨_, rfl⟩
    rw [hpn] at c2
    have HL : Hid ((pre ++ [x]).length = pn + 1) := by show _ = _; simp [hpn]
    have q1 := c1.cell 0
    have f1 := c1.frozen 0
    have q2 := c2.cell 0
    have f2 := c2.frozen 0
    have qd := d0.cell 0
    have qd1 := d0.cell 1
    have hpl : pn < 900000 := by omega
    have HG : Hid (pn + 1 ≤ 5000 → x.deep ≤ 60 → GoodT (pre ++ [x])) := fun g1 g2 => hg.snoc (by omega) g2
    have HB : Hid (5000 < pn + 1 ∨ 60 < x.deep → ¬ GoodT (pre ++ [x])) := fun g1 g2 => by
      have a1 := g2.1
      have a2 := g2.2 x (by simp)
      rw [HL.out] at a1
      omega
    have s2 := c2.set 0 (.int .i64 ((pn : Int) + 1))
    have s1 := c1.other (B' := N + 1 + 1) (by omega) 0 (.int .i64 ((pn : Int) + 1))
    have sd := d0.other (B' := N + 1 + 1) (by have := hb9.size; have := c2.lt; omega) 0 (.int .i64 ((pn : Int) + 1))
    have k2 := k1.trans (KpT.set (n0 := N) (fun _ h => h) c2 (by omega) (by decide) (by decide) (by decide) 0 (.int .i64 ((pn : Int) + 1)))
    have sb : Below N w (W2.setCell ⟨N + 1 + 1, 0, none⟩ (.int .i64 ((pn : Int) + 1))) := bset hb9 (by omega) _
    have sk := (KeepsOthers.setCell W2 ⟨N + 1 + 1, 0, none⟩ (.int .i64 ((pn : Int) + 1)))
    have bad : Hid (5000 < pn + 1 ∨ 60 < x.deep → endsF W0.heap.size (KpT fun b => b < N) (IRightT w N) (XRightT w N) (pre ++ [x]) W W2 .ret { tmps := #[], defers := [] } ((W2.setCell ⟨N + 1 + 1, 0, none⟩ (.int .i64 ((pn : Int) + 1))).setCell ⟨N + 1, 0, none⟩ (.bool false))) := fun g =>
      ⟨(sk.trans (KeepsOthers.setCell _ _ _)).from _, ⟨rfl, s1.set 0 _, HB.out g⟩, bset sb (by omega) _⟩
    have good : Hid (pn + 1 ≤ 5000 → x.deep ≤ 60 → endsF W0.heap.size (KpT fun b => b < N) (IRightT w N) (XRightT w N) (pre ++ [x]) W W2 .normal { tmps := #[], defers := [] } (W2.setCell ⟨N + 1 + 1, 0, none⟩ (.int .i64 ((pn : Int) + 1)))) := fun g1 g2 =>
      ⟨sk.from _, k2, ⟨s1, by rw [HL.out]; exact s2, HG.out g1 g2⟩, sb⟩
    clear s2 s1 sd k1 k2 sb sk HG HB HL c1 c2 d0 hg hpn
    by_cases g1 : 5000 < pn + 1
    · have z1 : decide ((5000 : Int) < (pn : Int) + 1) = true := by simp; omega
      gi_wp2
      exact bad.out (.inl g1)
    · have z1 : decide ((5000 : Int) < (pn : Int) + 1) = false := by simp; omega
      by_cases g2 : 60 < x.deep
      · have z2 : decide ((60 : Int) < (x.deep : Int)) = true := by simp; omega
        gi_wp2
        exact bad.out (.inr g2)
      · have z2 : decide ((60 : Int) < (x.deep : Int)) = false := by simp; omega
        gi_wp2
        exact good.out (by omega) (by omega)
  case done =>
    rintro D ys W hD rfl ⟨⟨c1, c2, hg⟩, hb9⟩ hK
    have HN9 := HN.out
    have hr := (rightT_iff t).2 hg
    have q1 := c1.cell 0
    have f1 := c1.frozen 0
    gi_wp2
    have s1 := c1.set 0 (.bool true)
    have sb : Below N w (W.setCell ⟨N + 1, 0, none⟩ (.bool true)) := bset hb9 (by omega) _
    have hK' := (KeepsOthers.setCell W ⟨N + 1, 0, none⟩ (.bool true)).same D _ hK rfl
    generalize W.setCell ⟨N + 1, 0, none⟩ (.bool true) = W3 at *
    refine ⟨by simp, .inl ⟨_, _, rfl, run_takeDeferred hK', ?_⟩⟩
    have e1 : (W3.putObj D (.deferred none)).cell? ⟨N + 1, 0, none⟩ = some (.bool true) := (s1.put (.deferred none) hK' rfl).cell 0
    refine ⟨.bool true, by simp [results, Try.f12, go_sem, e1], by rw [hr], ?_⟩
    rw [HN.out]
    exact sb.trans (belowK_b (w := W0) (by omega) W3 D _ _ hD hK' rfl rfl)
  case stop =>
    rintro D c pre W hD hpre ⟨⟨rfl, c1, hg⟩, hb9⟩ hK
    have HN9 := HN.out
    have hr := rightT_not hg hpre
    have q1 := c1.cell 0
    gi_wp2
    refine ⟨by simp, .inl ⟨_, _, rfl, run_takeDeferred hK, ?_⟩⟩
    have e1 : (W.putObj D (.deferred none)).cell? ⟨N + 1, 0, none⟩ = some (.bool false) := (c1.put (.deferred none) hK rfl).cell 0
    refine ⟨.bool false, by simp [results, Try.f12, go_sem, e1], by rw [hr], ?_⟩
    rw [HN.out]
    exact hb9.trans (belowK_b (w := W0) (by omega) W D _ _ hD hK rfl rfl)

end Go.Proofs.Ytheokboggjnenaa
