/-
  The contracts of raw's isHead, wellFormed, right and Right, and of the document's shaped and Right.
-/
import Derived.Test.YtckagmagjogmnaaSizeR
import Derived.Deep.DeepCutAuto
namespace Go.Proofs.Ytckagmagjogmnaa
open Go Go.RowKit

theorem isHd_cases (k : Int) : (k = 0 ∧ isHd k = true) ∨ (k = 1 ∧ isHd k = true) ∨ (k = 2 ∧ isHd k = true) ∨ (k ≠ 0 ∧ k ≠ 1 ∧ k ≠ 2 ∧ isHd k = false) := by
  unfold isHd
  by_cases h0 : k = 0
  · subst h0; exact .inl ⟨rfl, by decide⟩
  · by_cases h1 : k = 1
    · subst h1; exact .inr (.inl ⟨rfl, by decide⟩)
    · by_cases h2 : k = 2
      · subst h2; exact .inr (.inr (.inl ⟨rfl, by decide⟩))
      · refine .inr (.inr (.inr ⟨h0, h1, h2, ?_⟩))
        simp only [Bool.and_eq_false_iff, decide_eq_false_iff_not]
        omega

set_option maxRecDepth 100000 in
theorem isHead_calls (k b i : Int) (x1 : Option Addr) (n1 x2 : Nat) (x3 : Option Addr) (n2 x4 : Nat) (w : World) :
    Calls Try.prog 46 #[rwv k (.slice x1 n1 x2) b i (.slice x3 n2 x4)] w fun e w' => e = .returned (.bool (isHd k)) ∧ Below w.heap.size w w' := by
  obtain ⟨N, hN⟩ : ∃ N, w.heap.size = N := ⟨_, rfl⟩
  rw [hN]
  have bl0 : Below N w (w.alloc (.cells #[.int .i64 k, .slice x1 n1 x2, .int .i64 b, .int .i64 i, .slice x3 n2 x4] 35)) := (Below.refl N w).alloc (by omega) _
  rcases isHd_cases k with ⟨rfl, e⟩ | ⟨rfl, e⟩ | ⟨rfl, e⟩ | ⟨h0, h1, h2, e⟩
  all_goals (rw [e]; clear e)
  · go_enter Try.func46, Try.ntmps46
    go_wp2
    go_ret
    exact ⟨rfl, bl0⟩
  · go_enter Try.func46, Try.ntmps46
    go_wp2
    go_ret
    exact ⟨rfl, bl0⟩
  · go_enter Try.func46, Try.ntmps46
    go_wp2
    go_ret
    exact ⟨rfl, bl0⟩
  · have z0 : (k == 0) = false := by simp [h0]
    have z1 : (k == 1) = false := by simp [h1]
    have z2 : (k == 2) = false := by simp [h2]
    go_enter Try.func46, Try.ntmps46
    go_wp2
    go_ret
    exact ⟨rfl, bl0⟩

set_option maxRecDepth 100000 in
theorem wellFormed_calls (k b i : Int) (x1 : Option Addr) (n1 x2 : Nat) (x3 : Option Addr) (n2 x4 : Nat) (w : World) :
    Calls Try.prog 68 #[rwv k (.slice x1 n1 x2) b i (.slice x3 n2 x4)] w fun e w' => e = .returned (.bool (wellR k n2)) ∧ Below w.heap.size w w' := by
  obtain ⟨N, hN⟩ : ∃ N, w.heap.size = N := ⟨_, rfl⟩
  rw [hN]
  obtain ⟨W, hW⟩ : ∃ W, w.alloc (.cells #[.int .i64 k, .slice x1 n1 x2, .int .i64 b, .int .i64 i, .slice x3 n2 x4] 35) = W := ⟨_, rfl⟩
  have b0 : Blk W N 35 #[.int .i64 k, .slice x1 n1 x2, .int .i64 b, .int .i64 i, .slice x3 n2 x4] := by rw [← hW]; exact Blk.new' w N 35 _ hN
  have bl0 : Below N w W := by rw [← hW]; exact (Below.refl N w).alloc (by omega) _
  have HW : Hid _ := hW
  clear hW
  have c0 := b0.cell 0
  have c1 := b0.cell 1
  have c2 := b0.cell 2
  have c3 := b0.cell 3
  have c4 := b0.cell 4
  have l0 := b0.lt
  by_cases h3 : k = 3
  · subst h3
    have e : Hid (wellR 3 n2 = ((n2 : Int) == 1)) := by show (n2 == 1) = _; rw [Bool.eq_iff_iff]; simp; omega
    generalize wellR 3 n2 = q at *
    go_enter Try.func68, Try.ntmps68
    go_upto_region 1 with fail
    rw [HW.out]
    clear HW
    go_wp2
    all_goals
      go_ret
      exact ⟨ret_bool e.out.symm, bl0⟩
  · by_cases h4 : k = 4
    · subst h4
      have e : Hid (wellR 4 n2 = ((n2 : Int) == 2)) := by show (n2 == 2) = _; rw [Bool.eq_iff_iff]; simp; omega
      generalize wellR 4 n2 = q at *
      go_enter Try.func68, Try.ntmps68
      go_upto_region 1 with fail
      rw [HW.out]
      clear HW
      go_wp2
      all_goals
        go_ret
        exact ⟨ret_bool e.out.symm, bl0⟩
    · have z0 : (k == 3) = false := by simp [h3]
      have z1 : (k == 4) = false := by simp [h4]
      have e : Hid (wellR k n2 = (isHd k && ((n2 : Int) == 0))) := by
        show (if k = 3 then n2 == 1 else if k = 4 then n2 == 2 else isHd k && n2 == 0) = _
        rw [if_neg h3, if_neg h4, Bool.eq_iff_iff]; simp
      have hcall := isHead_calls k b i x1 n1 x2 x3 n2 x4 W
      generalize wellR k n2 = q at *
      generalize isHd k = h at *
      clear h3 h4
      go_enter Try.func68, Try.ntmps68
      go_upto_region 1 with fail
      rw [HW.out]
      clear HW
      go_wp2_with fail
      refine hcall.mono ?_
      rintro ee w1 ⟨rfl, hb1⟩
      have b1 := b0.below hb1 b0.lt
      have B1 : Below N w w1 := bl0.trans (hb1.mono (by omega))
      have d4 := b1.cell 4
      clear hcall hb1 c0 c1 c2 c3 c4 b0 bl0
      cases h
      · go_wp2
        go_ret
        exact ⟨ret_bool (by rw [e.out]; rfl), B1⟩
      · go_wp2
        go_ret
        exact ⟨ret_bool (by rw [e.out]; rfl), B1⟩

/-- What right says of one raw term that stands so deep, where n are left. -/
def RightP (t : Rw) (d n : Int) (P : Nat) (w : World) (e : Ending) (w' : World) : Prop := ∃ (q : Bool) (m : Int), e = .returned (.bool q) ∧ (q = true ↔ t.shaped = true ∧ (t.size : Int) ≤ n ∧ d - 1 + t.depth ≤ 60) ∧ (q = true → m = n - t.size) ∧ Blk w' P 3 #[.int .i64 m] ∧ Only [P] w w'
/-- right's own word of one raw term -/
def RightAt (t : Rw) : Prop := ∀ (d n : Int) (ok : Nat → Prop) (sb sl : Value) (w : World) (P : Nat), Holds w ok t.ty.args sb → HoldsR w ok t.kids sl → (∀ b, ok b → b ≠ P) → Blk w P 3 #[.int .i64 n] → 1 ≤ d → d ≤ 1000 → 0 ≤ n → n ≤ 5000 → t.size ≤ 100000000 →
    Calls Try.prog 42 #[rwv t.kind sb t.ty.base t.idx sl, .int .i64 d, .pointer (some ⟨P, 0, none⟩)] w (RightP t d n P w)

set_option maxRecDepth 100000 in
set_option maxHeartbeats 3200000 in
theorem right_calls (t : Rw) : RightAt t := by
  induction t using Rw.ind with
  | h t ih =>
  intro d n ok sb sl w P hb ha hokP hP hd1 hd2 hn1 hn2 hsz
  obtain ⟨ts, hts⟩ : ∃ ts, t.kids = ts := ⟨_, rfl⟩
  have hsz2 := t.size_eq
  have hdp := t.depth_eq
  have hsh := t.shaped_eq
  rw [hts] at ha ih hsz2 hdp hsh
  obtain ⟨x1, x2, rfl, _⟩ := hb.shape
  generalize t.ty.args.length = bn at *
  obtain ⟨a, cap, rfl, hcap, hat⟩ := ha.shape
  have HA : Hid _ := hat
  have HIH : Hid _ := ih
  have HSH : Hid _ := hsh
  have HDP : Hid _ := hdp
  have HSZ : Hid _ := hsz2
  have HTP : Hid (1 ≤ t.depth) := t.depth_pos
  have hln := sizeR_length ts
  have hkl : ts.length ≤ 100000000 := by omega
  obtain ⟨N, hN⟩ : ∃ N, w.heap.size = N := ⟨_, rfl⟩
  have HN : Hid (w.heap.size = N) := hN
  obtain ⟨W, hW⟩ : ∃ W, w.alloc (.cells #[.int .i64 t.kind, .slice x1 bn x2, .int .i64 t.ty.base, .int .i64 t.idx, .slice a ts.length cap] 35) = W := ⟨_, rfl⟩
  have b0 : Blk W N 35 #[.int .i64 t.kind, .slice x1 bn x2, .int .i64 t.ty.base, .int .i64 t.idx, .slice a ts.length cap] := by rw [← hW]; exact Blk.new' w N 35 _ hN
  have bP : Blk W P 3 #[.int .i64 n] := by rw [← hW]; exact hP.alloc _
  have bl0 : Only [P] w W := by rw [← hW]; exact (Only.refl [P] w).alloc _
  have hPN : P < N := by rw [← hN]; exact hP.lt
  have HW : Hid _ := hW
  have p0 := bP.cell 0
  have f0 := bP.frozen 0
  have g0 := (b0.other (B' := P) (by omega) 0 (.int .i64 (n - 1)))
  have g1 := bP.set 0 (.int .i64 (n - 1))
  have g2 : Only [P] w (W.setCell ⟨P, 0, none⟩ (.int .i64 (n - 1))) := bl0.set (by simp) _ _
  clear hW hat ha hb ih hts hsz2 hdp hsh hln hP
  have hwr : IntKind.i64.wrap (n - 1) = n - 1 := by rw [IntKind.wrap_i64]; omega
  go_enter Try.func42, Try.ntmps42
  go_upto_region 1 with fail
  rw [HW.out]
  clear HW
  obtain ⟨W1, hW1⟩ : ∃ W1, W.setCell ⟨P, 0, none⟩ (.int .i64 (n - 1)) = W1 := ⟨_, rfl⟩
  rw [hW1] at g0 g1 g2
  have HW1 : Hid _ := hW1
  clear hW1 b0 bP bl0
  go_upto_region 2 with fail
  rw [HW1.out]
  clear HW1 p0 f0
  have p0 := g1.cell 0
  have c0 := g0.cell 0
  have c1 := g0.cell 1
  have c2 := g0.cell 2
  have c3 := g0.cell 3
  have c4 := g0.cell 4
  by_cases hn0 : n - 1 < 0
  · have z0 : decide (n - 1 < 0) = true := by simp; omega
    have HR : Hid (¬ (t.shaped = true ∧ (t.size : Int) ≤ n ∧ d - 1 + t.depth ≤ 60)) := fun ⟨_, h2, _⟩ => by have := HSZ.out; omega
    go_wp2
    go_ret
    exact ⟨false, n - 1, rfl, ⟨fun h => (by cases h), fun h => absurd h HR.out⟩, fun h => (by cases h), g1, g2⟩
  · have z0 : decide (n - 1 < 0) = false := by simp; omega
    by_cases hd0 : d > 60
    · have z1 : decide (d > 60) = true := by simp; omega
      have z2 : decide (60 < d) = true := by simp; omega
      have HR : Hid (¬ (t.shaped = true ∧ (t.size : Int) ≤ n ∧ d - 1 + t.depth ≤ 60)) := fun ⟨_, _, h3⟩ => by have := HTP.out; omega
      go_wp2
      go_ret
      exact ⟨false, n - 1, rfl, ⟨fun h => (by cases h), fun h => absurd h HR.out⟩, fun h => (by cases h), g1, g2⟩
    · have z1 : decide (d > 60) = false := by simp; omega
      have z2 : decide (60 < d) = false := by simp; omega
      have hcall := wellFormed_calls t.kind t.ty.base t.idx x1 bn x2 a ts.length cap W1
      obtain ⟨q, hq⟩ : ∃ q, wellR t.kind ts.length = q := ⟨_, rfl⟩
      rw [hq] at hcall HSH
      go_wp2_with fail
      refine hcall.mono ?_
      rintro ee w1 ⟨rfl, hb1⟩
      have e0 := g0.below hb1 g0.lt
      have e1 := g1.below hb1 g1.lt
      have e2 : Only [P] w w1 := g2.trans (Only.of_below' hb1)
      clear hcall c0 c1 c2 c3 c4 g0 g1 g2 p0 hb1 hq
      cases q with
      | false =>
        go_wp2
        go_ret
        exact ⟨false, n - 1, rfl, ⟨fun h => (by cases h), fun h => (by have := h.1; rw [HSH.out] at this; cases this)⟩, fun h => (by cases h), e1, e2⟩
      | true =>
        have c4 := e0.cell 4
        go_wp2_with fail
        clear c4 e0
        go_loopw [30] (fun i wr => ∃ k : Nat, k ≤ ts.length ∧ i = .int .i64 k ∧ Hid (ShapedUp ts k) ∧ (sizeR (ts.take k) : Int) + 1 ≤ n ∧ d + (depthR (ts.take k) : Int) ≤ 60 ∧ Blk wr P 3 #[.int .i64 (n - 1 - sizeR (ts.take k))] ∧ Only [P] w wr)
          (fun i _ => ts.length - (intOf i).toNat)
        case atStart => exact ⟨0, Nat.zero_le _, rfl, (fun _ _ h => by omega), by simp [sizeR]; omega, by simp [depthR]; omega, by simpa [sizeR] using e1, e2⟩
        case round =>
          clear e1 e2
          obtain ⟨k, hk, rfl, HF, hs1, hs2, hbP, hbl⟩ := hrel
          have hsle := sizeR_take_le ts k
          have hnw : N ≤ wr.heap.size := by rw [← HN.out]; exact hbl.size
          by_cases hlt : k < ts.length
          · obtain ⟨u, hu⟩ : ∃ u, ts[k]? = some u := ⟨_, List.getElem?_eq_getElem hlt⟩
            obtain ⟨g, o, s, r, rfl, hgo, hg, a0, a1, a2, a3, a4, hs, hr⟩ := HA.out k u hu
            obtain ⟨sa, sc, rfl, _⟩ := hs.shape
            obtain ⟨sd, se, rfl, _⟩ := hr.shape
            have hgP : g ≠ P := hokP g hgo
            have hcl : ∀ j, wr.cell? ⟨g, j, none⟩ = w.cell? ⟨g, j, none⟩ := fun j => hbl.cell hg (by simp; exact hgP)
            have q0 := (hcl _).trans a0
            have q1 := (hcl _).trans a1
            have q2 := (hcl _).trans a2
            have q3 := (hcl _).trans a3
            have q4 := (hcl _).trans a4
            have hs2' : Holds wr ok u.ty.args _ := hs.keep fun b hb ho => ⟨hbl.block b hb (by simp; exact hokP b ho), ho⟩
            have hr2' : HoldsR wr ok u.kids _ := hr.keep fun b hb ho => ⟨hbl.block b hb (by simp; exact hokP b ho), ho⟩
            have hm := List.mem_of_getElem? hu
            have hus := rsize_mem hm
            have hud := u.depth_pos
            have hS : Hid (sizeR (ts.take (k + 1)) = sizeR (ts.take k) + u.size) := sizeR_take hu
            have hD : Hid (depthR (ts.take (k + 1)) = max (depthR (ts.take k)) u.depth) := depthR_take hu
            have hm2 := rdepth_mem hm
            have HU : Hid (ts[k]? = some u) := hu
            have HM : Hid (u ∈ ts) := hm
            have hle2 : sizeR (ts.take (k + 1)) ≤ sizeR ts := sizeR_take_le ts (k + 1)
            have hle3 : depthR (ts.take (k + 1)) ≤ depthR ts := depthR_take_le ts (k + 1)
            rw [hS.out] at hle2
            generalize u.ty.args.length = n1 at *
            generalize u.kids.length = n2 at *
            have y1 : (0 : Int) ≤ (k : Int) := by omega
            have y2 : (k : Int) < (ts.length : Int) := by omega
            have hwd : IntKind.i64.wrap (d + 1) = d + 1 := by rw [IntKind.wrap_i64]; omega
            have hPx := hbP.alloc (.cells #[.int .i64 u.kind, .slice sa n1 sc, .int .i64 u.ty.base, .int .i64 u.idx, .slice sd n2 se] 35)
            have hbx := hbl.alloc (.cells #[.int .i64 u.kind, .slice sa n1 sc, .int .i64 u.ty.base, .int .i64 u.idx, .slice sd n2 se] 35)
            have hcall := HIH.out u hm (d + 1) (n - 1 - sizeR (ts.take k)) ok _ _ _ P (hs2'.alloc (.cells #[.int .i64 u.kind, .slice sa n1 sc, .int .i64 u.ty.base, .int .i64 u.idx, .slice sd n2 se] 35)) (hr2'.alloc _) hokP hPx (by omega) (by omega) (by omega) (by omega) (by have := HSZ.out; omega)
            clear a0 a1 a2 a3 a4 hu hs hr hcl hs2' hr2' hm hbP hbl hgo hm2
            go_wp2_with fail
            refine hcall.mono ?_
            rintro e w3 ⟨q, m, rfl, i1, i2, i3, i4⟩
            have hb3 : Only [P] w w3 := hbx.trans i4
            have I1 : Hid _ := i1
            have I2 : Hid _ := i2
            clear hcall i1 i2 i4 hPx hbx
            cases q with
            | false =>
              have HR : Hid (¬ (t.shaped = true ∧ (t.size : Int) ≤ n ∧ d - 1 + t.depth ≤ 60)) := fun ⟨h1, h2, h3⟩ => by
                rw [HSH.out, Bool.true_and] at h1
                rw [HSZ.out] at h2
                rw [HDP.out] at h3
                have h4 := (shapedR_iff ts).1 h1 u HM.out
                have h5 := rdepth_mem HM.out
                have h9 := I1.out.2 ⟨h4, by omega, by omega⟩
                cases h9
              go_wp2
              go_ret
              exact ⟨false, m, rfl, ⟨fun h => (by cases h), fun h => absurd h HR.out⟩, fun h => (by cases h), i3, hb3⟩
            | true =>
              have i5 := I2.out rfl
              obtain ⟨i6, i7, i8⟩ := I1.out.1 rfl
              subst i5
              go_wp2
              go_roundw
              case rel => exact ⟨k + 1, by omega, by go_num, HF.out.step HU.out i6, by rw [hS.out]; omega, by rw [hD.out]; omega, by rw [hS.out]; have e9 : n - 1 - ((sizeR (ts.take k) + u.size : Nat) : Int) = n - 1 - (sizeR (ts.take k) : Int) - u.size := by omega
                                                                                                                                     rw [e9]; exact i3, hb3⟩
              case measure => simp [intOf]; omega
          · obtain rfl : k = ts.length := by omega
            rw [List.take_length] at hs1 hs2 hbP
            have HR : Hid (t.shaped = true ∧ (t.size : Int) ≤ n ∧ d - 1 + t.depth ≤ 60 ∧ n - 1 - (sizeR ts : Int) = n - t.size) := ⟨by rw [HSH.out, Bool.true_and]; exact HF.out.all, by rw [HSZ.out]; omega, by rw [HDP.out]; omega, by rw [HSZ.out]; omega⟩
            go_wp2
            go_ret
            exact ⟨true, _, rfl, ⟨fun _ => ⟨HR.out.1, HR.out.2.1, HR.out.2.2.1⟩, fun _ => rfl⟩, fun _ => HR.out.2.2.2, hbP, hbl⟩

set_option maxRecDepth 100000 in
theorem RightR_calls (t : Rw) (ok : Nat → Prop) (sb sl : Value) (w : World) (hb : Holds w ok t.ty.args sb) (ha : HoldsR w ok t.kids sl) (hsz : t.size ≤ 100000000) :
    Calls Try.prog 11 #[rwv t.kind sb t.ty.base t.idx sl] w fun e w' => e = .returned (.bool t.right) ∧ Below w.heap.size w w' := by
  obtain ⟨N, hN⟩ : ∃ N, w.heap.size = N := ⟨_, rfl⟩
  rw [hN]
  have hb0 : Holds w (fun b => b < N) t.ty.args sb := hb.mono fun b h _ => by omega
  have ha0 : HoldsR w (fun b => b < N) t.kids sl := ha.mono fun b h _ => by omega
  obtain ⟨x1, x2, rfl, _⟩ := hb.shape
  obtain ⟨x3, x4, rfl, _⟩ := ha.shape
  generalize t.ty.args.length = n1 at *
  generalize t.kids.length = n2 at *
  obtain ⟨W, hW⟩ : ∃ W, (w.alloc (.cells #[.int .i64 t.kind, .slice x1 n1 x2, .int .i64 t.ty.base, .int .i64 t.idx, .slice x3 n2 x4] 35)).alloc (.cells #[.int .i64 5000] 3) = W := ⟨_, rfl⟩
  have b0 : Blk W N 35 #[.int .i64 t.kind, .slice x1 n1 x2, .int .i64 t.ty.base, .int .i64 t.idx, .slice x3 n2 x4] := by rw [← hW]; exact (Blk.new' w N 35 _ hN).alloc _
  have b1 : Blk W (N + 1) 3 #[.int .i64 5000] := by rw [← hW]; exact Blk.new' _ (N + 1) 3 _ (by simp [hN])
  have bl0 : Below N w W := by rw [← hW]; exact ((Below.refl N w).alloc (by omega) _).alloc (by simp; omega) _
  have hcall := right_calls t 1 5000 _ _ _ W (N + 1) (hb0.bel (hN ▸ bl0)) (ha0.bel (hN ▸ bl0)) (fun b h => by omega) b1 (by omega) (by omega) (by omega) (by omega) hsz
  have HQ : Hid (∀ q : Bool, (q = true ↔ t.shaped = true ∧ (t.size : Int) ≤ 5000 ∧ (1 : Int) - 1 + t.depth ≤ 60) → q = t.right) := fun q h => by
    rw [Bool.eq_iff_iff, h]
    unfold Rw.right
    simp only [Bool.and_eq_true, decide_eq_true_eq]
    constructor
    · intro ⟨h1, h2, h3⟩; exact ⟨⟨h1, by omega⟩, by omega⟩
    · intro ⟨⟨h1, h2⟩, h3⟩; exact ⟨h1, by omega, by omega⟩
  have c0 := b0.cell 0
  have c1 := b0.cell 1
  have c2 := b0.cell 2
  have c3 := b0.cell 3
  have c4 := b0.cell 4
  have l1 := b1.lt
  have HW : Hid _ := hW
  generalize t.right = rt at *
  clear hW hb ha hb0 ha0
  go_enter Try.func11, Try.ntmps11
  go_upto_region 2 with fail
  rw [HW.out]
  clear HW
  go_wp2_with fail
  refine hcall.mono ?_
  rintro e w1 ⟨q, m, rfl, i1, _, _, i4⟩
  have e1 := HQ.out q i1
  subst e1
  clear i1
  have B1 : Below N w w1 := bl0.trans (i4.below (by omega) (by simp))
  go_wp2
  go_ret
  exact ⟨rfl, B1⟩

end Go.Proofs.Ytckagmagjogmnaa
