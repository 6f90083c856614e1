/-
  The contracts of kind.Each and of the iterator that it hands back.
-/
import Derived.Test.YthcncdihgghbjaaKnown
import Derived.Test.YthcncdihgghbjaaWalkP
import Derived.Test.YthcncdihgghbjaaVals
namespace Go.Proofs.Ythcncdihgghbjaa
open Go Go.RowKit Go.Shelf

attribute [local go_sem] Oper.semAt_some

theorem bel_alloc' (w : World) (o : Obj) : Below w.heap.size w (w.alloc o) := (Below.refl _ _).alloc (Nat.le_refl _) o

theorem KeepsFrom.of_below {B : Nat} {W W' : World} (h : Below W.heap.size W W') : KeepsFrom B W W' := ⟨h.size, fun k _ _ hk _ => (h.block k (Array.getElem?_eq_some_iff.1 hk).1).trans hk⟩

/-- What is said of such blocks abides. -/
theorem ownFrom_keepP {β : Type} {B : Nat} {P : Nat → Prop} {W : World} (hP : ∀ b, P b → b < B) : OwnFrom B (fun (_ : β) W' => KeepP P W W') :=
  fun _ X Y row hs hg hr => ⟨Nat.le_trans hs.1 hg.size, fun b hb hl => (hg.block b (Nat.lt_of_lt_of_le hl hs.1) (fun e => by have h1 := (hr b e.symm).1; have h2 := hP b hb; omega)).trans (hs.2 b hb hl)⟩

def actE (N l Bk : Nat) (sl : Value) (b : Int) (d : Int) (s : Value) (c : Int) (Bx : Nat) (u9 u10 u11 u12 u13 u14 : Value) : Act :=
  { tmps := #[.func (.yield l) #[] #[], .pointer (some ⟨Bk, 0, none⟩), .pointer (some ⟨N, 0, none⟩), .int .i64 d, .pointer (some ⟨Bx, 0, none⟩), tv sl b, .func (.func 50) #[] #[.pointer (some ⟨N + 1, 0, none⟩)], .int .i64 d, tv s c, u9, u10, u11, u12, u13, u14], defers := [] }
abbrev actEach (N l Bk : Nat) (sl : Value) (b : Int) (d : Int) (s : Value) (c : Int) (Bx : Nat) : Act := actE N l Bk sl b d s c Bx undef undef undef undef undef undef
theorem over_actE (N l Bk : Nat) (sl : Value) (b : Int) (d : Int) (s : Value) (c : Int) (Bx : Nat) (u9 u10 u11 u12 u13 u14 : Value) (u : Nat → Value) :
    over (fun s => Nat.ble 9 s && Nat.ble s 14) u (actE N l Bk sl b d s c Bx u9 u10 u11 u12 u13 u14) = actE N l Bk sl b d s c Bx (u 9) (u 10) (u 11) (u 12) (u 13) (u 14) := rfl

/-- What the slots of a round's region hold. -/
def VEach (l : Nat) (d : Int) (S : Value) (u : Ty) (xn : Nat) (s : Nat) (w : World) (v : Value) : Prop :=
  (s = 9 → v = .func (.yield l) #[] #[]) ∧ (s = 10 → v = .int .i64 d) ∧ (s = 11 → v = tv S u.base) ∧ (s = 12 → ∃ ya yc, v = tv (.slice ya xn yc) u.base ∧ Holds w okT u.args (.slice ya xn yc))
theorem VEach.mono {l : Nat} {d : Int} {S : Value} {u : Ty} {xn : Nat} {s : Nat} {w w' : World} {v : Value} (h : VEach l d S u xn s w v) (hb : Below w.heap.size w w') : VEach l d S u xn s w' v :=
  ⟨h.1, h.2.1, h.2.2.1, fun e => by obtain ⟨ya, yc, h1, h2⟩ := h.2.2.2 e; exact ⟨ya, yc, h1, h2.bel hb⟩⟩

def IEach (W : World) (P : Nat → Prop) (N l : Nat) (J : List (Nat × Ty) → World → Prop) (ks : List (Nat × Ty)) (W' : World) : Prop :=
  (J ks W' ∧ Blk W' N 76 #[.func (.yield l) #[] #[]]) ∧ KeepP P W W'

set_option maxRecDepth 100000 in
set_option maxHeartbeats 2000000 in
theorem each1_in (P : Nat → Prop) (B l Bk n : Nat) (J Jx : List (Nat × Ty) → World → Prop) (t : Ty) (sl : Value)
    (hJ : OwnFrom B J) (hJb : ∀ pre W W', J pre W → Below W.heap.size W W' → J pre W') (hJx : OwnFrom B Jx)
    (hY : ∀ m pre (d : Nat) s u W, J pre W → pre.length < t.size → u.size ≤ 1000000 → Holds W okT u.args s → B ≤ W.heap.size → YieldAt Fence.wide m Try.prog l #[.int .i64 (d : Int), tv s u.base] W fun e W' =>
      (e = .returned (.bool true) ∧ J (pre ++ [(d, u)]) W' ∧ KpP P W W' ∧ KeepsFrom B W W') ∨ (e = .returned (.bool false) ∧ Jx (pre ++ [(d, u)]) W' ∧ KeepsFrom B W W'))
    (W : World) (hB : B ≤ W.heap.size) (hP : ∀ b, P b → b < W.heap.size) (hBk : Blk W Bk 29 #[sl, .int .i64 t.base]) (hh : Holds W P t.args sl) (hsz : t.size ≤ 900000) (h0 : J [] W) :
    CallsIn Fence.wide n Try.prog 46 #[.func (.yield l) #[] #[], .pointer (some ⟨Bk, 0, none⟩)] W fun e W' => (∃ v, e = .returned v) ∧ (J (t.within 1) W' ∨ ∃ pre, pre <+: t.within 1 ∧ Jx pre W') := by
  refine callsIn_wide.2 ((callsIn_wide (n := 9)).1 ?_)
  have h1 : 1 ≤ 9 := by omega
  have hf36 : Fence.wide.fn 36 := trivial
  have hf45 : Fence.wide.fn 45 := trivial
  have hdd : ∀ k : Nat, (Fence.wide.depth.isSome = true → 1 ≤ k) := fun k h => by cases h
  obtain ⟨N, hN⟩ : ∃ N, W.heap.size = N := ⟨_, rfl⟩
  obtain ⟨a, cap, hsl, _⟩ := hh.shape
  generalize t.args.length = tn at hsl
  subst hsl
  have c0 := hBk.cell 0
  have c1 := hBk.cell 1
  have hBkN : Bk < N := by rw [← hN]; exact hBk.lt
  refine callsIn_of_wp_marks Try.func46 rfl trivial ?_ rfl
  simp only [Try.ntmps46, List.size_toArray, List.length_cons, List.length_nil, Nat.reduceAdd, Nat.reduceSub, Array.replicate_succ, Array.replicate_zero, List.push_toArray, List.append_toArray, List.nil_append, List.cons_append]
  have d0 := (cat (bel_alloc' W (.cells #[.func (.yield l) #[] #[]] 76)) (hBk.lt)).trans c0
  have d1 := (cat (bel_alloc' W (.cells #[.func (.yield l) #[] #[]] 76)) (hBk.lt)).trans c1
  gi_wp2_with (gi_at_call 36; refine (within_in _ _ _ _).mono ?_; rintro e w' ⟨rfl, rfl⟩)
  obtain ⟨W0, hW0⟩ : ∃ W0, (W.alloc (.cells #[.func (.yield l) #[] #[]] 76)).alloc (.cells #[.slice a tn cap, .int .i64 t.base] 29) = W0 := ⟨_, rfl⟩
  have b0 : Blk W0 N 76 #[.func (.yield l) #[] #[]] := by rw [← hW0]; exact (Blk.new' _ N 76 _ hN).alloc _
  have b1 : Blk W0 (N + 1) 29 #[.slice a tn cap, .int .i64 t.base] := by rw [← hW0]; exact Blk.new' _ (N + 1) 29 _ (by simp [hN])
  have hsz0 : W0.heap.size = N + 2 := by rw [← hW0]; simp [hN]
  have hb : Below N W W0 := by rw [← hW0]; exact ((Below.refl N W).alloc (by simp [hN]) _).alloc (by simp [hN]) _
  have hJ0 : J [] W0 := hJb _ _ _ h0 (by rw [hN]; exact hb)
  rw [hW0]
  have HN : Hid (W.heap.size = N) := hN
  rw [hN] at hB hP
  clear hW0 hN d0 d1 c0 c1 h0
  refine wpIn_rangeFunc_ownH rfl h1 (gf := 50) (lb := #[.pointer (some ⟨N + 1, 0, none⟩)]) rfl trivial (enters_of Try.func50 (by kernel_rfl) rfl)
    (withinP_stops W P (9 - 1) (N + 1) t (.slice a tn cap) W0 b1 hh hsz (KeepP.of_below (by rw [HN.out]; exact hb))) KpP.trans (KpP.put (fun b h => by have := hP b h; omega)) (Below.refl _ _) (fun _ => rfl)
    (fun pre W' => IEach W P N l J (keysP pre) W')
    (fun c pre W' => c = .ret ∧ Jx (keysP pre) W')
    (OwnFrom.and (fun s A C row hs hg hr => ⟨hJ _ A C row hs.1 hg (fun r e => ⟨by have := (hr r e).1; omega, (hr r e).2⟩), hs.2.own hg (fun r e => (hr r e).2)⟩) (ownFrom_keepP (fun b h => by have := hP b h; omega)))
    (fun c s A C row hs hg hr => ⟨hs.1, hJx _ A C row hs.2 hg (fun r e => ⟨by have := (hr r e).1; omega, (hr r e).2⟩)⟩)
    ⟨⟨hJ0, b0⟩, KeepP.of_below (by rw [HN.out]; exact hb)⟩
    (fun x a' W' => ∃ Bx, Blk W' Bx 29 #[x.s, .int .i64 x.t.base] ∧ a' = actEach N l Bk (.slice a tn cap) t.base x.d x.s x.t.base Bx)
    (fun x a' _ X Y row hs hg hr => by obtain ⟨Bx, h2, h3⟩ := hs; exact ⟨Bx, h2.own hg (fun r e => (hr r e).2), h3⟩)
    ?assign ?body ?done ?stop
  case assign =>
    rintro l' pre x W1 K ⟨⟨hj, by1⟩, hbl⟩ hK
    obtain ⟨xa, xc, hxs, _⟩ := x.h.shape
    have hK1 : ∀ Bx, W1.heap.size = Bx → K (actEach N l Bk (.slice a tn cap) t.base x.d x.s x.t.base Bx) (W1.alloc (.cells #[x.s, .int .i64 x.t.base] 29)) := fun Bx hBx =>
      hK _ _ ((KeepsOthers.alloc _ _).from _) (KpP.alloc _ _) ⟨⟨hJb _ _ _ hj (bel_alloc' _ _), by1.alloc _⟩, hbl.trans (KeepP.alloc _ _)⟩ ⟨Bx, Blk.new' _ _ _ _ hBx, rfl⟩
    have hKx := hK1 _ rfl
    clear hK hK1
    unfold actEach actE at hKx
    simp only [encP]
    rw [hxs] at hKx ⊢
    gi_wp2
    simpa using hKx
  case body =>
    rintro l' pre x a' W1 hl _ ⟨⟨hj, by1⟩, hbl⟩ ⟨Bx, bX, rfl⟩ hlen
    have q0 := by1.cell 0
    have qX0 := bX.cell 0
    have qX1 := bX.cell 1
    have hxh : Holds W1 P x.t.args x.s := x.h.keepP hbl
    have hfr := fun w => fresh_calls x.t x.z P x.s w
    have hk1 : keysP (pre ++ [x]) = keysP pre ++ [(x.d, x.t)] := by rw [keysP_append]; rfl
    have hpl : (keysP pre).length < t.size := by rw [keysP_length]; exact hlen
    have HY := fun m s W => hY m (keysP pre) x.d s x.t W
    obtain ⟨xa, xc, hxs, _⟩ := x.h.shape
    generalize hxl : x.t.args.length = xn at hxs
    rw [hxs] at hfr qX0 hxh ⊢
    have hk1' : Hid (keysP (pre ++ [x]) = keysP pre ++ [(x.d, x.t)]) := hk1
    clear hY hk1 hxs
    refine wpIn_block (wpIn_seq_k fun K hKs => ?_)
    refine region_vals 4 (fun s => Nat.ble 9 s && Nat.ble s 14) (VEach l x.d (.slice xa xn xc) x.t xn) (fun w => Below W1.heap.size W1 w) (by kernel_rfl) (by decide) (by kernel_rfl) (by kernel_rfl) (by kernel_rfl) (fun _ _ _ _ h hb => h.mono hb) (fun _ _ h hb => h.trans (hb.mono h.size)) ((Below.refl _ _).drew) ⟨?_, ?_, ?_, ?_, trivial⟩ ?_
    · intro u w hC hk K' hK
      have q := (cat hC by1.lt).trans q0
      have hK3 := hK (.func (.yield l) #[] #[]) w (fun s hs => by cases hs; exact ⟨fun _ => rfl, (fun e => by cases e), (fun e => by cases e), (fun e => by cases e)⟩) (Below.refl _ _)
      rw [over_actE] at hK3 ⊢
      clear hK hk
      refine want_plain rfl ?_
      unfold actE at *
      go_simp
      exact hK3
    · intro u w hC hk K' hK
      have hK3 := hK (.int .i64 x.d) w (fun s hs => by cases hs; exact ⟨(fun e => by cases e), fun _ => rfl, (fun e => by cases e), (fun e => by cases e)⟩) (Below.refl _ _)
      rw [over_actE] at hK3 ⊢
      clear hK hk
      refine want_plain rfl ?_
      unfold actE at *
      go_simp
      exact hK3
    · intro u w hC hk K' hK
      have p0 := (cat hC bX.lt).trans qX0
      have p1 := (cat hC bX.lt).trans qX1
      have hK3 := hK (tv (.slice xa xn xc) x.t.base) w (fun s hs => by cases hs; exact ⟨(fun e => by cases e), (fun e => by cases e), fun _ => rfl, (fun e => by cases e)⟩) (Below.refl _ _)
      rw [over_actE] at hK3 ⊢
      clear hK hk
      refine want_plain rfl ?_
      unfold actE at *
      go_simp
      exact hK3
    · intro u w hC hk K' hK
      have e11 := (hk 11 (by decide +kernel) rfl).2.2.1 rfl
      have hcall := hfr w (hxh.bel hC)
      have hK3 := fun (w2 : World) (ya : Option Addr) (yc : Nat) (hv2 : Holds w2 okT x.t.args (.slice ya xn yc)) (hb2 : Below w.heap.size w w2) => hK (tv (.slice ya xn yc) x.t.base) w2 (fun s hs => by cases hs; exact ⟨(fun e => by cases e), (fun e => by cases e), (fun e => by cases e), fun _ => ⟨ya, yc, rfl, hv2⟩⟩) hb2
      simp only [over_actE] at hK3 ⊢
      clear hK hk
      refine want_plain rfl ?_
      simp only [e11] at hK3 ⊢
      unfold actE at *
      go_simp
      refine (CallsIn.inRound l' (callsIn_wide.2 hcall)).mono ?_
      rintro e w2 ⟨v2, rfl, hv2, hb2⟩
      obtain ⟨ya, yc, hv, _⟩ := hv2.shape
      rw [hxl] at hv
      subst hv
      exact hK3 w2 ya yc hv2.t hb2
    · intro o ho u w hC hv K' hK
      cases ho
      have e9 := (hv 9 (by decide +kernel)).1 rfl
      have e10 := (hv 10 (by decide +kernel)).2.1 rfl
      obtain ⟨ya, yc, e12, hy12⟩ := (hv 12 (by decide +kernel)).2.2.2 rfl
      obtain ⟨fn, tmps, assign, body, hy, hR⟩ := HY (9 - 1 - 1 - 1) (.slice ya xn yc) w (hJb _ _ _ hj hC) hpl x.z hy12 (by have := hC.size; have := by1.lt; omega)
      simp only [over_actE] at hK ⊢
      refine want_plain rfl ?_
      rw [e9, e10, e12]
      unfold actE at *
      go_simp
      refine hR.mono ?_
      have hC0 : KeepsFrom W0.heap.size W1 w := KeepsFrom.of_below hC
      have hyk : Blk w N 76 #[.func (.yield l) #[] #[]] := by1.below hC by1.lt
      have hkw : KpP P W1 w := KpP.of_below hC
      clear hR hy hv
      rintro e W3 (⟨rfl, hJ3, hk3, hf3⟩ | ⟨rfl, hx3, hf3⟩)
      · have hK3 := fun a' h => hK a' W3 h
        clear hK
        refine hK3 _ (any_next 5 _ (by decide +kernel) rfl fun K2 hK2 => ?_)
        have hK4 := fun a' h => hK2 a' W3 (wpAnyIn_done (by decide +kernel) h 0)
        clear hK2 hK3
        refine want_plain rfl ?_
        go_simp
        refine hK4 _ (hKs _ _ ?_)
        clear hK4 hKs
        gi_wp2
        have hk4 := hkw.trans hk3
        exact ⟨hC0.trans (KeepsFrom.up hf3 (by omega)), hk4, ⟨by rw [hk1'.out]; exact hJ3, hk4.2 N 76 _ (.inr rfl) by1⟩, hbl.trans hk4.1⟩
      · have hK3 := fun a' h => hK a' W3 h
        clear hK
        refine hK3 _ (any_next 5 _ (by decide +kernel) rfl fun K2 hK2 => ?_)
        have hK4 := fun a' h => hK2 a' W3 (wpAnyIn_done (by decide +kernel) h 0)
        clear hK2 hK3
        refine want_plain rfl ?_
        go_simp
        refine hK4 _ (hKs _ _ ?_)
        clear hK4 hKs
        gi_wp2
        exact ⟨hC0.trans (KeepsFrom.up hf3 (by omega)), rfl, by rw [hk1'.out]; exact hx3⟩
  case done =>
    rintro D ys W1 hD hys ⟨⟨hj, by1⟩, hbl⟩ hK
    rw [hys] at hj
    gi_wp2
    refine ⟨by simp, .inl ⟨_, _, rfl, run_takeDeferred hK, ?_⟩⟩
    exact ⟨_, results_none rfl _ _ _, ⟨_, rfl⟩, .inl (hJ.putObj _ hj (by omega) hK rfl)⟩
  case stop =>
    rintro D c pre W1 hD hpre ⟨rfl, hx⟩ hK
    gi_wp2
    refine ⟨by simp, .inl ⟨_, _, rfl, run_takeDeferred hK, ?_⟩⟩
    exact ⟨_, results_none rfl _ _ _, ⟨_, rfl⟩, .inr ⟨_, hpre, hJx.putObj _ hx (by omega) hK rfl⟩⟩

set_option maxRecDepth 100000 in
set_option maxHeartbeats 1000000 in
/-- Each tells an iterator over a type of its own. -/
theorem Each_calls (t : Ty) (ok : Nat → Prop) (sl : Value) (w : World) (hh : Holds w ok t.args sl) (hsz : t.size ≤ 900000) :
    Calls Try.prog 33 #[tv sl t.base] w fun e w' => ∃ Bk v, e = .returned (.func (.func 46) #[] #[.pointer (some ⟨Bk, 0, none⟩)]) ∧ Blk w' Bk 29 #[v, .int .i64 t.base] ∧ Holds w' (fun b => w.heap.size ≤ b) t.args v ∧ Below w.heap.size w w' := by
  obtain ⟨a, cap, hsl, _⟩ := hh.shape
  generalize t.args.length = tn at hsl
  subst hsl
  obtain ⟨N, hN⟩ : ∃ N, w.heap.size = N := ⟨_, rfl⟩
  rw [hN]
  have hfr := fresh_calls t (by omega) ok (.slice a tn cap) (w.alloc (.cells #[.slice a tn cap, .int .i64 t.base] 29)) (hh.alloc _)
  have b0 := Blk.new' w N 29 #[.slice a tn cap, .int .i64 t.base] hN
  have c0 := b0.cell 0
  have c1 := b0.cell 1
  go_enter Try.func33, Try.ntmps33
  go_wp2_with (go_at_call 45; refine hfr.mono ?_; rintro e w2 ⟨v2, rfl, hv2, hb2⟩; obtain ⟨ya, yc, rfl, _⟩ := hv2.shape)
  go_ret
  have hs := hb2.size
  simp at hs
  exact ⟨w2.heap.size, _, rfl, Blk.new _ _ _, (hv2.mono fun b _ h => by simp at h; omega).alloc _, (((Below.refl N w).alloc (by omega) _).trans (hb2.mono (by simp; omega))).alloc (by omega) _⟩

end Go.Proofs.Ythcncdihgghbjaa
