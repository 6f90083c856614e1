/-
  The contracts of kind.Order and kind.Right.
-/
import Derived.Test.YtckagmagjogmnaaWithin
namespace Go.Proofs.Ytckagmagjogmnaa
open Go Go.RowKit Go.Shelf

attribute [local go_sem] Oper.semAt_some

def Good (n : Int) (l : List (Nat × Ty)) : Prop := l.length ≤ 1000 ∧ ∀ p ∈ l, p.1 ≤ 60 ∧ 0 ≤ p.2.base ∧ p.2.base < n
theorem Good.nil (n : Int) : Good n [] := ⟨by simp, fun p hp => by cases hp⟩
theorem Good.snoc {n : Int} {l : List (Nat × Ty)} {p : Nat × Ty} (h : Good n l) (h0 : l.length + 1 ≤ 1000) (h1 : p.1 ≤ 60) (h2 : 0 ≤ p.2.base) (h3 : p.2.base < n) : Good n (l ++ [p]) :=
  ⟨by simpa using h0, fun q hq => by
    rcases List.mem_append.1 hq with hq | hq
    · exact h.2 q hq
    · rw [List.mem_singleton.1 hq]; exact ⟨h1, h2, h3⟩⟩
theorem Good.prefix {n : Int} {l m : List (Nat × Ty)} (h : Good n m) (hp : l <+: m) : Good n l :=
  ⟨Nat.le_trans hp.length_le h.1, fun p hm => h.2 p (hp.subset hm)⟩
theorem dmax_le {l : List (Nat × Ty)} {p : Nat × Ty} (h : p ∈ l) : p.1 ≤ dmax l := by
  induction l with
  | nil => cases h
  | cons q l ih =>
    rcases List.mem_cons.1 h with rfl | h
    · simp [dmax]; omega
    · have := ih h; simp [dmax]; omega
theorem dmax_max (l : List (Nat × Ty)) (k : Nat) (h : ∀ p ∈ l, p.1 ≤ k) : dmax l ≤ k := by
  induction l with
  | nil => simp [dmax]
  | cons q l ih =>
    have := h q (by simp)
    have := ih (fun p hp => h p (by simp [hp]))
    simp [dmax]; omega
theorem lowL_within (n : Int) (l : List Ty) (h : ∀ t ∈ l, ∀ d, t.low n = true ↔ ∀ p ∈ t.within d, 0 ≤ p.2.base ∧ p.2.base < n) (d : Nat) : lowL n l = true ↔ ∀ p ∈ withinL d l, 0 ≤ p.2.base ∧ p.2.base < n := by
  induction l with
  | nil => simp [lowL, withinL]
  | cons t r ih =>
    rw [lowL, Bool.and_eq_true, h t (by simp) d, ih (fun u hu => h u (by simp [hu]))]
    simp only [withinL, List.mem_append]
    constructor
    · rintro ⟨h1, h2⟩ p (hp | hp)
      · exact h1 p hp
      · exact h2 p hp
    · intro h1
      exact ⟨fun p hp => h1 p (.inl hp), fun p hp => h1 p (.inr hp)⟩
theorem low_within (n : Int) (t : Ty) : ∀ d, t.low n = true ↔ ∀ p ∈ t.within d, 0 ≤ p.2.base ∧ p.2.base < n := by
  induction t using Ty.ind with
  | h t ih =>
    intro d
    rw [t.low_eq, t.within_eq, Bool.and_eq_true, Bool.and_eq_true, lowL_within n t.args ih (d + 1), decide_eq_true_iff, decide_eq_true_iff]
    simp only [List.mem_cons]
    constructor
    · rintro ⟨⟨h1, h2⟩, h3⟩ p (rfl | hp)
      · exact ⟨h1, h2⟩
      · exact h3 p hp
    · intro h1
      exact ⟨h1 _ (.inl rfl), fun p hp => h1 p (.inr hp)⟩
theorem right_iff (n : Int) (t : Ty) : rightB n t = true ↔ Good n (t.within 1) := by
  have hd := dmax_within t 1 (by omega)
  unfold rightB fewB Good
  rw [Bool.and_eq_true, decide_eq_true_iff, low_within n t 1, t.within_length]
  constructor
  · rintro ⟨⟨h1, h2⟩, h3⟩
    exact ⟨h1, fun p hp => ⟨by have := dmax_le hp; omega, h3 p hp⟩⟩
  · rintro ⟨h1, h2⟩
    refine ⟨⟨h1, ?_⟩, fun p hp => (h2 p hp).2⟩
    have := dmax_max _ 60 (fun p hp => (h2 p hp).1)
    omega
theorem right_not {n : Int} {t : Ty} {l : List (Nat × Ty)} (h : ¬ Good n l) (hp : l <+: t.within 1) : rightB n t = false := by
  cases hr : rightB n t with
  | false => rfl
  | true => exact absurd (((right_iff n t).1 hr).prefix hp) h

def IRight (w : World) (N : Nat) (n : Int) (l : List (Nat × Ty)) (W : World) : Prop :=
  (Blk W (N + 1) 3 #[.int .i64 n] ∧ Blk W (N + 1 + 1) 4 #[.bool false] ∧ Blk W (N + 1 + 1 + 1) 3 #[.int .i64 (l.length : Int)] ∧ Good n l) ∧ Below N w W
def XRight (w : World) (N : Nat) (n : Int) (c : Code) (l : List (Nat × Ty)) (W : World) : Prop :=
  (c = .ret ∧ Blk W (N + 1 + 1) 4 #[.bool false] ∧ ¬ Good n l) ∧ Below N w W
def actRight (N : Nat) (n : Int) (a : Option Addr) (tn cap : Nat) (base : Int) (d : Int) (s : Value) (b : Int) (Bx : Nat) : Act :=
  { tmps := #[tv (.slice a tn cap) base, .int .i64 n, .pointer (some ⟨N, 0, none⟩), .pointer (some ⟨N + 1, 0, none⟩), .pointer (some ⟨N + 1 + 1, 0, none⟩), .pointer (some ⟨N + 1 + 1 + 1, 0, none⟩), .int .i64 d, .pointer (some ⟨Bx, 0, none⟩), .agg #[.slice a tn cap, .int .i64 base], .func (.func 101) #[] #[.pointer (some ⟨N + 1 + 1 + 1 + 1, 0, none⟩)], .int .i64 d, tv s b, undef, undef, undef, undef, undef, undef, undef, undef, undef, undef, undef, undef, undef, undef, undef, undef, undef, undef, undef], defers := [] }

set_option maxRecDepth 100000 in
set_option maxHeartbeats 2000000 in
theorem kRight_calls (n : Int) (t : Ty) (ok : Nat → Prop) (sl : Value) (w : World) (hh : Holds w ok t.args sl) (hsz : t.size ≤ 900000) :
    Calls Try.prog 64 #[tv sl t.base, .int .i64 n] w fun e w' => e = .returned (.bool (rightB n t)) ∧ Below w.heap.size w w' := by
  refine (callsIn_wide (n := 9)).1 ?_
  have h1 : 1 ≤ 9 := by omega
  have hf36 : Fence.wide.fn 87 := trivial
  obtain ⟨N, hN⟩ : ∃ N, w.heap.size = N := ⟨_, rfl⟩
  have hh0 : Holds w (fun b => b < N) t.args sl := hh.mono fun b hb _ => by omega
  obtain ⟨a, cap, hsl, _⟩ := hh.shape
  generalize t.args.length = tn at hsl
  subst hsl
  refine callsIn_of_wp_marks Try.func64 rfl trivial ?_ rfl
  simp only [Try.ntmps64, List.size_toArray, List.length_cons, List.length_nil, Nat.reduceAdd, Nat.reduceSub, Array.replicate_succ, Array.replicate_zero, List.push_toArray, List.append_toArray, List.nil_append, List.cons_append]
  gi_wp2_with (gi_at_call 87; refine (within_in _ _ _ _).mono ?_; rintro e w' ⟨rfl, rfl⟩)
  obtain ⟨W0, hW0⟩ : ∃ W0, ((((w.alloc (.cells #[.slice a tn cap, .int .i64 t.base] 32)).alloc (.cells #[.int .i64 n] 3)).alloc (.cells #[.bool false] 4)).alloc (.cells #[.int .i64 0] 3)).alloc (.cells #[.slice a tn cap, .int .i64 t.base] 32) = W0 := ⟨_, rfl⟩
  have b1 : Blk W0 (N + 1) 3 #[.int .i64 n] := by rw [← hW0]; exact (((Blk.new' _ (N + 1) 3 _ (by simp [hN])).alloc _).alloc _).alloc _
  have b2 : Blk W0 (N + 1 + 1) 4 #[.bool false] := by rw [← hW0]; exact ((Blk.new' _ (N + 1 + 1) 4 _ (by simp [hN])).alloc _).alloc _
  have b3 : Blk W0 (N + 1 + 1 + 1) 3 #[.int .i64 0] := by rw [← hW0]; exact (Blk.new' _ (N + 1 + 1 + 1) 3 _ (by simp [hN])).alloc _
  have b4 : Blk W0 (N + 1 + 1 + 1 + 1) 32 #[.slice a tn cap, .int .i64 t.base] := by rw [← hW0]; exact Blk.new' _ (N + 1 + 1 + 1 + 1) 32 _ (by simp [hN])
  have hsz0 : W0.heap.size = N + 5 := by rw [← hW0]; simp [hN]
  have hb : Below N w W0 := by rw [← hW0]; exact (((((Below.refl N w).alloc (by simp [hN]) _).alloc (by simp [hN]) _).alloc (by simp [hN]; omega) _).alloc (by simp [hN]; omega) _).alloc (by simp [hN]; omega) _
  rw [hW0]
  have HN : Hid (w.heap.size = N) := hN
  clear hW0 hN
  refine wpIn_rangeFunc_ownH rfl h1 (gf := 101) (lb := #[.pointer (some ⟨N + 1 + 1 + 1 + 1, 0, none⟩)]) rfl trivial (enters_of Try.func101 (by kernel_rfl) rfl)
    (within_stops w N (9 - 1) (N + 1 + 1 + 1 + 1) t (.slice a tn cap) W0 b4 hh0 hsz (by omega) hb) Kp.trans (Kp.put (by omega)) (Below.refl _ _) (fun _ => rfl)
    (fun pre W => IRight w N n (keys pre) W)
    (fun c pre W => XRight w N n c (keys pre) W)
    (OwnFrom.and (fun s A B row hs hg hr => by
        have hr' := fun r e => (hr r e).2
        exact ⟨hs.1.own hg hr', hs.2.1.own hg hr', hs.2.2.1.own hg hr', hs.2.2.2⟩) (ownFrom_below (by rw [HN.out]; exact Nat.le_refl _) (by omega)))
    (fun c => OwnFrom.and (fun s A B row hs hg hr => by
        have hr' := fun r e => (hr r e).2
        exact ⟨hs.1, hs.2.1.own hg hr', hs.2.2⟩) (ownFrom_below (by rw [HN.out]; exact Nat.le_refl _) (by omega)))
    ⟨⟨b1, b2, b3, Good.nil n⟩, hb⟩
    (fun x a' W => ∃ Bx, N + 1 + 1 + 1 < Bx ∧ Blk W Bx 32 #[x.s, .int .i64 x.t.base] ∧ a' = actRight N n a tn cap t.base x.d x.s x.t.base Bx)
    (fun x a' _ X Y row hs hg hr => by obtain ⟨Bx, h1, h2, h3⟩ := hs; exact ⟨Bx, h1, h2.own hg (fun r e => (hr r e).2), h3⟩)
    ?assign ?body ?done ?stop
  case assign =>
    rintro l pre x W K ⟨⟨c1, c2, c3, hg⟩, hbl⟩ hK
    obtain ⟨xa, xc, hxs, _⟩ := x.h.shape
    have hKx := hK (actRight N n a tn cap t.base x.d x.s x.t.base W.heap.size) (W.alloc (.cells #[x.s, .int .i64 x.t.base] 32)) ((KeepsOthers.alloc _ _).from _) (Kp.alloc (by have := hbl.size; have := HN.out; omega) _) ⟨⟨c1.alloc _, c2.alloc _, c3.alloc _, hg⟩, hbl.alloc (by have := hbl.size; have := HN.out; omega) _⟩ ⟨W.heap.size, c3.lt, Blk.new W 32 _, rfl⟩
    clear hK
    unfold actRight at hKx
    simp only [encI]
    rw [hxs] at hKx ⊢
    gi_wp2
    simpa using hKx
  case body =>
    rintro l pre x a' W hl _ ⟨⟨c1, c2, c3, hg⟩, hbl⟩ ⟨Bx, hBx, bX, rfl⟩ hlen
    unfold actRight
    obtain ⟨m, hm⟩ : ∃ m, (keys pre).length = m := ⟨_, rfl⟩
    have hml : m < t.size := by rw [← hm, keys_length]; exact hlen
    rw [hm] at c3
    have q1 := c1.cell 0
    have q3 := c3.cell 0
    have f3 := c3.frozen 0
    have qX := bX.cell 1
    have hk1 : keys (pre ++ [x]) = keys pre ++ [(x.d, x.t)] := by rw [keys_append]; rfl
    have HG : Hid (m + 1 ≤ 1000 → x.d ≤ 60 → 0 ≤ x.t.base → x.t.base < n → Good n (keys (pre ++ [x]))) := fun g1 g2 g3 g4 => by
      rw [hk1]; exact hg.snoc (by omega) g2 g3 g4
    have HB : Hid (1000 < m + 1 ∨ 60 < x.d ∨ x.t.base < 0 ∨ n ≤ x.t.base → ¬ Good n (keys (pre ++ [x]))) := fun g1 g2 => by
      rw [hk1] at g2
      have a1 := g2.1
      have a2 := g2.2 (x.d, x.t) (by simp)
      simp at a1 a2
      omega
    have HL : Hid ((keys (pre ++ [x])).length = m + 1) := by show _ = _; rw [hk1]; simp [hm]
    have HM : Hid ((keys pre).length = m) := hm
    clear hk1 hm hg
    have s3 := c3.set 0 (.int .i64 ((m : Int) + 1))
    have k3 : Kp N W (W.setCell ⟨N + 1 + 1 + 1, 0, none⟩ (.int .i64 ((m : Int) + 1))) := Kp.set c3 (by omega) (by decide) (by decide) 0 _
    have s1 := c1.other (B' := N + 1 + 1 + 1) (by omega) 0 (.int .i64 ((m : Int) + 1))
    have s2 := c2.other (B' := N + 1 + 1 + 1) (by omega) 0 (.int .i64 ((m : Int) + 1))
    have sX := bX.other (B' := N + 1 + 1 + 1) (by omega) 0 (.int .i64 ((m : Int) + 1))
    have sb : Below N w (W.setCell ⟨N + 1 + 1 + 1, 0, none⟩ (.int .i64 ((m : Int) + 1))) := bset hbl (by omega) _
    have sk := (KeepsOthers.setCell W ⟨N + 1 + 1 + 1, 0, none⟩ (.int .i64 ((m : Int) + 1)))
    have q2 := c2.cell 0
    have f2 := c2.frozen 0
    have bad : Hid (1000 < m + 1 ∨ 60 < x.d ∨ x.t.base < 0 ∨ n ≤ x.t.base → KeepsFrom (N + 5) W ((W.setCell ⟨N + 1 + 1 + 1, 0, none⟩ (.int .i64 ((m : Int) + 1))).setCell ⟨N + 1 + 1, 0, none⟩ (.bool false)) ∧
        XRight w N n .ret (keys (pre ++ [x])) ((W.setCell ⟨N + 1 + 1 + 1, 0, none⟩ (.int .i64 ((m : Int) + 1))).setCell ⟨N + 1 + 1, 0, none⟩ (.bool false))) := fun g =>
      ⟨(sk.trans (KeepsOthers.setCell _ _ _)).from _, ⟨rfl, s2.set 0 _, HB.out g⟩, bset sb (by omega) _⟩
    have good : Hid (¬ 1000 < m + 1 → ¬ 60 < x.d → ¬ x.t.base < 0 → ¬ n ≤ x.t.base → KeepsFrom (N + 5) W (W.setCell ⟨N + 1 + 1 + 1, 0, none⟩ (.int .i64 ((m : Int) + 1))) ∧ Kp N W (W.setCell ⟨N + 1 + 1 + 1, 0, none⟩ (.int .i64 ((m : Int) + 1))) ∧
        IRight w N n (keys (pre ++ [x])) (W.setCell ⟨N + 1 + 1 + 1, 0, none⟩ (.int .i64 ((m : Int) + 1)))) := fun g1 g2 g3 g4 =>
      ⟨sk.from _, k3, ⟨s1, s2, by rw [HL.out]; simpa using s3, HG.out (by omega) (by omega) (by omega) (by omega)⟩, sb⟩
    clear s3 k3 s1 s2 sX sb sk HG HB HL c1 c2 c3 bX
    by_cases g1 : 1000 < m + 1
    · have z1 : decide ((1000 : Int) < (m : Int) + 1) = true := by simp; omega
      gi_wp2
      exact bad.out (.inl g1)
    · have z1 : decide ((1000 : Int) < (m : Int) + 1) = false := by simp; omega
      by_cases g2 : 60 < x.d
      · have z2 : decide ((60 : Int) < (x.d : Int)) = true := by simp; omega
        gi_wp2
        exact bad.out (.inr (.inl g2))
      · have z2 : decide ((60 : Int) < (x.d : Int)) = false := by simp; omega
        by_cases g3 : x.t.base < 0
        · have z3 : decide (x.t.base < 0) = true := by simp; omega
          gi_wp2
          exact bad.out (.inr (.inr (.inl g3)))
        · have z3 : decide (x.t.base < 0) = false := by simp; omega
          by_cases g4 : n ≤ x.t.base
          · have z4 : decide (n ≤ x.t.base) = true := by simp; omega
            gi_wp2
            exact bad.out (.inr (.inr (.inr g4)))
          · have z4 : decide (n ≤ x.t.base) = false := by simp; omega
            gi_wp2
            exact good.out g1 g2 g3 g4
  case done =>
    rintro D ys W hD hys ⟨⟨c1, c2, c3, hg⟩, hbl⟩ hK
    rw [hys] at hg
    have hr := (right_iff n t).2 hg
    have q2 := c2.cell 0
    have f2 := c2.frozen 0
    gi_wp2
    have s2 := c2.set 0 (.bool true)
    have sb : Below N w (W.setCell ⟨N + 1 + 1, 0, none⟩ (.bool true)) := bset hbl (by omega) _
    have hK' := (KeepsOthers.setCell W ⟨N + 1 + 1, 0, none⟩ (.bool true)).same D _ hK rfl
    generalize W.setCell ⟨N + 1 + 1, 0, none⟩ (.bool true) = W3 at *
    refine ⟨by simp, .inl ⟨_, _, rfl, run_takeDeferred hK', ?_⟩⟩
    have e1 : (W3.putObj D (.deferred none)).cell? ⟨N + 1 + 1, 0, none⟩ = some (.bool true) := (s2.put (.deferred none) hK' rfl).cell 0
    refine ⟨.bool true, ?_, by rw [hr], ?_⟩
    · simp [results, Try.f64, go_sem, e1]
    · rw [HN.out]
      exact sb.trans (belowK_b (w := W0) (by omega) W3 D _ _ hD hK' rfl rfl)
  case stop =>
    rintro D c pre W hD hpre ⟨⟨rfl, c2, hg⟩, hbl⟩ hK
    have hr := right_not hg hpre
    have q2 := c2.cell 0
    gi_wp2
    refine ⟨by simp, .inl ⟨_, _, rfl, run_takeDeferred hK, ?_⟩⟩
    have e1 : (W.putObj D (.deferred none)).cell? ⟨N + 1 + 1, 0, none⟩ = some (.bool false) := (c2.put (.deferred none) hK rfl).cell 0
    refine ⟨.bool false, ?_, by rw [hr], ?_⟩
    · simp [results, Try.f64, go_sem, e1]
    · rw [HN.out]
      exact hbl.trans (belowK_b (w := W0) (by omega) W D _ _ hD hK rfl rfl)

end Go.Proofs.Ytckagmagjogmnaa
