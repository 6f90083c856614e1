/-
  The contracts of term.walk and term.heads: the heads of a term and of all terms within, each ahead of its arguments', with where they stand, given to whatever loop body, till one says that it wants no more.
-/
import Derived.Test.YtheokboggjnenaaLoopsF
import Derived.Test.YtheokboggjnenaaWalk
import Derived.Test.YtheokboggjnenaaSizesT
namespace Go.Proofs.Ytheokboggjnenaa
open Go Go.RowKit Go.Shelf

attribute [local go_sem] Oper.semAt_some

/-- The blocks that P names lie as they lay. -/
def KeepP (P : Nat → Prop) (W W' : World) : Prop := W.heap.size ≤ W'.heap.size ∧ ∀ b, P b → b < W.heap.size → W'.heap[b]? = W.heap[b]?
theorem KeepP.refl (P : Nat → Prop) (W : World) : KeepP P W W := ⟨Nat.le_refl _, fun _ _ _ => rfl⟩
theorem KeepP.trans {P : Nat → Prop} {A B C : World} (h : KeepP P A B) (k : KeepP P B C) : KeepP P A C := ⟨Nat.le_trans h.1 k.1, fun b hb hl => (k.2 b hb (Nat.lt_of_lt_of_le hl h.1)).trans (h.2 b hb hl)⟩
theorem KeepP.of_below {P : Nat → Prop} {A B : World} (h : Below A.heap.size A B) : KeepP P A B := ⟨h.size, fun b _ hl => h.block b hl⟩
theorem KeepP.alloc {P : Nat → Prop} (W : World) (o : Obj) : KeepP P W (W.alloc o) := KeepP.of_below ((Below.refl _ _).alloc (Nat.le_refl _) o)
theorem KeepP.cell {P : Nat → Prop} {A B : World} (h : KeepP P A B) {g i : Nat} (hg : P g) (hl : g < A.heap.size) : B.cell? ⟨g, i, none⟩ = A.cell? ⟨g, i, none⟩ := World.cell?_of_block (w := A) (h.2 g hg hl)
theorem Holds.keepP {P : Nat → Prop} {A B : World} {ts : List Ty} {v : Value} (h : Holds A P ts v) (k : KeepP P A B) : Holds B P ts v := h.keep fun b hl hb => ⟨k.2 b hb hl, hb⟩
theorem HoldsT.keepP {P : Nat → Prop} {A B : World} {ts : List Tm} {v : Value} (h : HoldsT A P ts v) (k : KeepP P A B) : HoldsT B P ts v := h.keep fun b hl hb => ⟨k.2 b hb hl, hb⟩

/-- What a round that goes on keeps. -/
def KpT (P : Nat → Prop) (W W' : World) : Prop := KeepP P W W' ∧ ∀ j t vs, (t = 34 ∨ t = 99 ∨ t = 137) → Blk W j t vs → Blk W' j t vs
theorem KpT.refl (P : Nat → Prop) (W : World) : KpT P W W := ⟨KeepP.refl P W, fun _ _ _ _ h => h⟩
theorem KpT.trans {P : Nat → Prop} {A B C : World} (h : KpT P A B) (k : KpT P B C) : KpT P A C := ⟨h.1.trans k.1, fun j t vs ht hb => k.2 j t vs ht (h.2 j t vs ht hb)⟩
theorem KpT.of_below {P : Nat → Prop} {A B : World} (h : Below A.heap.size A B) : KpT P A B := ⟨KeepP.of_below h, fun _ _ _ _ hb => hb.below h hb.lt⟩
theorem KpT.alloc {P : Nat → Prop} (W : World) (o : Obj) : KpT P W (W.alloc o) := KpT.of_below ((Below.refl _ _).alloc (Nat.le_refl _) o)
theorem KpT.put {P : Nat → Prop} {n0 : Nat} (hP : ∀ b, P b → b < n0) (W : World) (l : Nat) (o o' : Obj) (hl : n0 ≤ l) (h : W.heap[l]? = some o) (hc : o.isCells = false) : KpT P W (W.putObj l o') :=
  ⟨⟨by simp, fun b hb _ => World.putObj_heap_other (by have := hP b hb; omega)⟩, fun _ _ _ _ hb => hb.put o' h hc⟩
/-- a store into a block that is new -/
theorem KpT.setNew {P : Nat → Prop} {n0 : Nat} (hP : ∀ b, P b → b < n0) {A W : World} (h : KpT P A W) {b : Nat} (hb : A.heap.size ≤ b) (hn : n0 ≤ b) (i : Nat) (v : Value) : KpT P A (W.setCell ⟨b, i, none⟩ v) :=
  ⟨⟨by simpa [World.setCell] using h.1.1, fun c hc hl => (Below.heap_setCell W ⟨b, i, none⟩ v c (show c ≠ b by have := hP c hc; omega)).trans (h.1.2 c hc hl)⟩, fun j t vs ht hj => (h.2 j t vs ht hj).other (by have := hj.lt; omega) i v⟩
/-- a store into a block that holds none of these -/
theorem KpT.set {P : Nat → Prop} {n0 : Nat} (hP : ∀ b, P b → b < n0) {W : World} {j : Nat} {t : TypeId} {vs : Array Value} (hb : Blk W j t vs) (hn : n0 ≤ j) (h1 : t ≠ 34) (h2 : t ≠ 99) (h3 : t ≠ 137) (i : Nat) (u : Value) : KpT P W (W.setCell ⟨j, i, none⟩ u) :=
  ⟨⟨by simp [World.setCell], fun c hc _ => Below.heap_setCell W ⟨j, i, none⟩ u c (show c ≠ j by have := hP c hc; omega)⟩, fun k t' vs' ht hk => hk.other (fun e => by
    subst e
    have := hb.symm.trans hk
    simp at this
    rcases ht with h | h | h
    · exact h1 (this.2.trans h)
    · exact h2 (this.2.trans h)
    · exact h3 (this.2.trans h)) i u⟩
theorem KpT.blk {P : Nat → Prop} {W W' : World} (h : KpT P W W') {j : Nat} {vs : Array Value} (hb : Blk W j 34 vs) : Blk W' j 34 vs := h.2 j 34 vs (.inl rfl) hb
theorem KpT.at {P : Nat → Prop} {W W' : World} (h : KpT P W W') {j : Nat} {vs : Array Value} (hb : Blk W j 99 vs) : Blk W' j 99 vs := h.2 j 99 vs (.inr (.inl rfl)) hb

abbrev wv (d b : Nat) : Value := .agg #[.int .i64 (d : Int), .int .i64 (b : Int)]
abbrev encH (x : Hd) : Array Value := #[wv x.deep x.around, .agg #[.int .i64 x.kind, .int .i64 x.idx]]

theorem headsT_take {d b : Nat} {ts : List Tm} {k : Nat} {u : Tm} (h : ts[k]? = some u) : headsT d b (ts.take (k + 1)) = headsT d b (ts.take k) ++ u.heads d b := by
  rw [List.take_add_one, h, headsT_append]; simp [headsT]
theorem headsT_prefix (d b : Nat) (ts : List Tm) (k : Nat) : headsT d b (ts.take k) <+: headsT d b ts := by
  conv => rhs; rw [← List.take_append_drop k ts, headsT_append]
  exact List.prefix_append _ _
theorem headsT_len (d b : Nat) (a : List Tm) : (headsT d b a).length = sizeT a := headsT_length d b a (fun t _ d b => t.heads_length d b)

set_option maxRecDepth 100000 in
set_option maxHeartbeats 2000000 in
theorem walkT_in (w0 : World) (P : Nat → Prop) (n0 n1 l N : Nat) (hP : ∀ b, P b → b < n0) (hn01 : n0 ≤ n1) (G : Hd → Prop) (J Jx : List Hd → World → Prop) (hJ : FreeFrom n1 J)
    (hY : ∀ m pre x W, n1 ≤ W.heap.size → J pre W → pre.length < N → G x → YieldAt Fence.wide m Try.prog l (encH x) W fun e W' => (e = .returned (.bool true) ∧ J (pre ++ [x]) W' ∧ KpT P W W') ∨ (e = .returned (.bool false) ∧ Jx (pre ++ [x]) W'))
    (t : Tm) : ∀ (n d b : Nat) (sb sl : Value) (pre : List Hd) (W : World), Holds w0 P t.binds sb → HoldsT w0 P t.args sl → t.total ≤ 1000000 → d + t.total ≤ 10000000 → b + t.total ≤ 10000000 → n1 ≤ W.heap.size → KeepP P w0 W → J pre W → pre.length + t.size ≤ N → (∀ p ∈ t.heads d b, G p) →
    CallsIn Fence.wide n Try.prog 94 #[tmv sb t.kind t.idx sl, wv d b, .func (.yield l) #[] #[]] W fun e W' =>
      (e = .returned (.bool true) ∧ J (pre ++ t.heads d b) W' ∧ KpT P W W') ∨ (e = .returned (.bool false) ∧ ∃ q, q <+: t.heads d b ∧ Jx (pre ++ q) W') := by
  induction t using Tm.ind with
  | h t ih =>
  intro n d b sb sl pre W hb hh hsz hdp hbp hn1 hW0 hJ0 hN hG
  have hsz2 := t.size_eq
  have htt := t.total_eq
  have hst := t.size_le_total
  have hlb := sizeL_length t.binds
  have hla := totalT_length t.args
  have hwi := t.heads_eq d b
  obtain ⟨x1, x2, rfl, _⟩ := hb.shape
  obtain ⟨bn, hbn⟩ : ∃ n, t.binds.length = n := ⟨_, rfl⟩
  rw [hbn] at hb hlb hwi ⊢
  obtain ⟨ts, hts⟩ : ∃ ts, t.args = ts := ⟨_, rfl⟩
  rw [hts] at hh ih hsz2 htt hla hwi
  have HWI : Hid _ := hwi
  rw [hwi] at hG
  have HG1 : Hid (G ⟨d, b + bn, t.kind, t.idx⟩) := hG _ (by simp)
  have HG2 : Hid (∀ p ∈ headsT (d + 1) (b + bn) ts, G p) := fun p hp => hG p (by simp [hp])
  clear hwi hG
  obtain ⟨a, cap, rfl, hcap, hat⟩ := hh.shape
  have HA : Hid _ := hat
  clear hat hh hb hbn
  have hln := sizeT_length ts
  obtain ⟨B, hB⟩ : ∃ B, W.heap.size = B := ⟨_, rfl⟩
  have hdd : ∀ k : Nat, (Fence.wide.depth.isSome = true → 1 ≤ k) := fun k h => by cases h
  have hf51 : Fence.wide.fn 94 := trivial
  obtain ⟨W1, hW1⟩ : ∃ W1, ((W.alloc (.cells #[.slice x1 bn x2, .int .i64 t.kind, .int .i64 t.idx, .slice a ts.length cap] 34)).alloc (.cells #[.int .i64 (d : Int), .int .i64 (b : Int)] 99)) = W1 := ⟨_, rfl⟩
  have b0 : Blk W1 B 34 #[.slice x1 bn x2, .int .i64 t.kind, .int .i64 t.idx, .slice a ts.length cap] := by rw [← hW1]; exact (Blk.new' W B 34 _ hB).alloc _
  have b1 : Blk W1 (B + 1) 99 #[.int .i64 (d : Int), .int .i64 (b : Int)] := by rw [← hW1]; exact Blk.new' _ (B + 1) 99 _ (by simp [hB])
  have hJ1 : J pre W1 := by rw [← hW1]; exact hJ.alloc _ (hJ.alloc _ hJ0)
  have k1 : KpT P W W1 := by rw [← hW1]; exact (KpT.alloc W _).trans (KpT.alloc _ _)
  have b2 := b1.set 1 (.int .i64 ((b : Int) + (bn : Int)))
  have a2 := b0.other (B' := B + 1) (by omega) 1 (.int .i64 ((b : Int) + (bn : Int)))
  have hJ2 : J pre (W1.setCell ⟨B + 1, 1, none⟩ (.int .i64 ((b : Int) + (bn : Int)))) := hJ.set b1 (.inr (.inl rfl)) (by omega) _ _ hJ1
  have k2 : KpT P W (W1.setCell ⟨B + 1, 1, none⟩ (.int .i64 ((b : Int) + (bn : Int)))) := k1.setNew hP (by omega) (by omega) 1 _
  have e0 := b0.cell 0
  have e1 := b1.cell 1
  have f1 := b1.frozen 1
  have z1 := b1.cell 0
  generalize hW2 : W1.setCell ⟨B + 1, 1, none⟩ (.int .i64 ((b : Int) + (bn : Int))) = W2 at *
  have hs2 : n1 ≤ W2.heap.size := Nat.le_trans hn1 k2.1.1
  obtain ⟨fn, tmps, assign, body, hy, hR⟩ := hY (n - 1) pre ⟨d, b + bn, t.kind, t.idx⟩ W2 hs2 hJ2 (by omega) HG1.out
  dsimp only [encH, wv] at hy
  rw [show ((b + bn : Nat) : Int) = (b : Int) + (bn : Int) by omega] at hy
  have c0 := b2.cell 0
  have c1 := b2.cell 1
  have g1 := a2.cell 1
  have g2 := a2.cell 2
  have g3 := a2.cell 3
  have y8 : (bn : Int) ≤ 1000000 := by omega
  have y9 : (b : Int) ≤ 10000000 := by omega
  have HW1 : Hid _ := hW1
  have HW2 : Hid _ := hW2
  refine callsIn_of_wp Try.func94 rfl trivial ?_ rfl
  simp only [Try.ntmps94, List.size_toArray, List.length_cons, List.length_nil, Nat.reduceAdd, Nat.reduceSub, Array.replicate_succ, Array.replicate_zero, List.push_toArray, List.append_toArray, List.nil_append, List.cons_append]
  gi_wp2
  refine ⟨hdd _, ?_⟩
  refine hR.mono ?_
  clear hR hy HW1 HW2
  rintro e W3 (⟨rfl, hJ3, k3⟩ | ⟨rfl, hJx3⟩)
  · have b3 := k3.at b2
    have a3 := k3.blk a2
    have kw := k2.trans k3
    have b4 := b3.set 0 (.int .i64 ((d : Int) + 1))
    have a4 := a3.other (B' := B + 1) (by omega) 0 (.int .i64 ((d : Int) + 1))
    have hs3 : n1 ≤ W3.heap.size := Nat.le_trans hn1 kw.1.1
    have hJ4 := hJ.set b3 (.inr (.inl rfl)) (by omega) 0 (.int .i64 ((d : Int) + 1)) hJ3
    have k4 := kw.setNew hP (b := B + 1) (by omega) (by omega) 0 (.int .i64 ((d : Int) + 1))
    have r0 := b3.cell 0
    have s0 := b3.frozen 0
    have r3 := a4.cell 3
    have y7 : (d : Int) ≤ 10000000 := by omega
    clear b0 b1 a2 b2 a3 b3 c0 c1 e0 e1 f1 z1 g1 g2 g3 k1 k2 k3 hJ0 hJ1 hJ2 hJ3 kw hW1 hW2
    generalize hW4 : W3.setCell ⟨B + 1, 0, none⟩ (.int .i64 ((d : Int) + 1)) = W4 at *
    gi_wp2
    gi_loopw [29] (fun i wr => ∃ k : Nat, k ≤ ts.length ∧ i = .int .i64 k ∧ J (pre ++ ⟨d, b + bn, t.kind, t.idx⟩ :: headsT (d + 1) (b + bn) (ts.take k)) wr ∧ KpT P W wr ∧ Blk wr (B + 1) 99 #[.int .i64 ((d : Int) + 1), .int .i64 ((b : Int) + (bn : Int))])
      (fun i _ => ts.length - (intOf i).toNat)
    case atStart => exact ⟨0, Nat.zero_le _, rfl, by simpa [headsT] using hJ4, k4, b4⟩
    case round =>
      clear hJ4 k4 b4 a4 r0 s0 r3 hW4 hs3
      obtain ⟨k, hk, rfl, hJk, kw, bk⟩ := hrel
      by_cases hlt : k < ts.length
      · obtain ⟨u, hu⟩ : ∃ u, ts[k]? = some u := ⟨_, List.getElem?_eq_getElem hlt⟩
        obtain ⟨g, o, s, r, rfl, hg, hgl, q0, q1, q2, q3, hs, hr⟩ := HA.out k u hu
        have hwr : KeepP P w0 wr := hW0.trans kw.1
        have a0 := (hwr.cell hg hgl).trans q0
        have a1 := (hwr.cell hg hgl).trans q1
        have a2 := (hwr.cell hg hgl).trans q2
        have a3 := (hwr.cell hg hgl).trans q3
        have hm := List.mem_of_getElem? hu
        have hus := total_mem hm
        have huz := tsize_mem hm
        have y1 : (0 : Int) ≤ (k : Int) := by omega
        have y2 : (k : Int) < (ts.length : Int) := by omega
        have hle : sizeT (ts.take k) + u.size ≤ sizeT ts := by rw [← sizeT_take' hu]; exact sizeT_take_le' ts (k + 1)
        have hlk : (pre ++ (⟨d, b + bn, t.kind, t.idx⟩ :: headsT (d + 1) (b + bn) (ts.take k))).length = pre.length + 1 + sizeT (ts.take k) := by rw [List.length_append, List.length_cons, headsT_len]; omega
        have HK2 : Hid (pre ++ (⟨d, b + bn, t.kind, t.idx⟩ :: headsT (d + 1) (b + bn) (ts.take k)) ++ u.heads (d + 1) (b + bn) = pre ++ ⟨d, b + bn, t.kind, t.idx⟩ :: headsT (d + 1) (b + bn) (ts.take (k + 1))) := by show _ = _; rw [headsT_take hu]; simp
        have HPX : Hid (⟨d, b + bn, t.kind, t.idx⟩ :: headsT (d + 1) (b + bn) (ts.take k) ++ u.heads (d + 1) (b + bn) <+: t.heads d b) := by
          show _ <+: _
          rw [HWI.out, List.cons_append, ← headsT_take hu]
          exact List.prefix_cons_inj _ |>.2 (headsT_prefix _ _ _ _)
        have hn3 : n1 ≤ wr.heap.size := Nat.le_trans hn1 kw.1.1
        obtain ⟨sa, sc, rfl, _⟩ := hs.shape
        obtain ⟨ra, rc, rfl, _⟩ := hr.shape
        have hcall := ih u hm (n - 1) (d + 1) (b + bn) (.slice sa u.binds.length sc) (.slice ra u.args.length rc) (pre ++ (⟨d, b + bn, t.kind, t.idx⟩ :: headsT (d + 1) (b + bn) (ts.take k))) (wr.alloc (.cells #[.slice sa u.binds.length sc, .int .i64 u.kind, .int .i64 u.idx, .slice ra u.args.length rc] 34)) hs hr (by omega) (by omega) (by omega) (by simp; omega) (hwr.trans (KeepP.alloc _ _)) (hJ.alloc _ hJk) (by rw [hlk]; omega) (fun p hp => HG2.out p ((headsT_prefix (d + 1) (b + bn) ts (k + 1)).subset (by rw [headsT_take hu]; exact List.mem_append.2 (.inr hp))))
        dsimp only [wv] at hcall
        rw [show ((d + 1 : Nat) : Int) = (d : Int) + 1 by omega, show ((b + bn : Nat) : Int) = (b : Int) + (bn : Int) by omega] at hcall
        have k3 : KpT P W (wr.alloc (.cells #[.slice sa u.binds.length sc, .int .i64 u.kind, .int .i64 u.idx, .slice ra u.args.length rc] 34)) := kw.trans (KpT.alloc _ _)
        have bk2 := bk.alloc (.cells #[.slice sa u.binds.length sc, .int .i64 u.kind, .int .i64 u.idx, .slice ra u.args.length rc] 34)
        have m0 := bk2.cell 0
        have m1 := bk2.cell 1
        clear q0 q1 q2 q3 hu ih hs hr hlk
        generalize u.binds.length = un at *
        generalize u.args.length = ul at *
        gi_wp2_with ((try refine ⟨hdd _, ?_⟩); gi_at_call 94; refine hcall.mono ?_; clear hcall; rintro e W5 (⟨rfl, hJ5, k5⟩ | ⟨rfl, q, hq, hJx5⟩))
        · go_roundw
          case rel => exact ⟨k + 1, by omega, by go_num, by rw [← HK2.out]; exact hJ5, k3.trans k5, k5.at bk2⟩
          case measure => simp [intOf]; omega
        · go_ret
          refine .inr ⟨rfl, ⟨d, b + bn, t.kind, t.idx⟩ :: headsT (d + 1) (b + bn) (ts.take k) ++ q, ?_, by rw [← List.append_assoc]; exact hJx5⟩
          exact List.IsPrefix.trans ((List.prefix_append_right_inj _).2 hq) HPX.out
      · obtain rfl : k = ts.length := by omega
        gi_wp2
        go_ret
        exact .inl ⟨rfl, by rw [HWI.out]; rw [List.take_length] at hJk; exact hJk, kw⟩
  · gi_wp2
    go_ret
    refine .inr ⟨rfl, _, ?_, hJx3⟩
    rw [HWI.out]
    exact List.prefix_cons_inj _ |>.2 List.nil_prefix

set_option maxRecDepth 100000 in
set_option maxHeartbeats 2000000 in
theorem heads_stops (w0 : World) (P : Nat → Prop) (n0 n Bt : Nat) (hP : ∀ b, P b → b < n0) (t : Tm) (sb sl : Value) (w : World) (hBt : Blk w Bt 34 #[sb, .int .i64 t.kind, .int .i64 t.idx, sl]) (hb : Holds w0 P t.binds sb) (hh : HoldsT w0 P t.args sl) (hsz : t.total ≤ 900000) (hn0 : n0 ≤ w.heap.size) (hk : KeepP P w0 w) :
    SeqStopsF Fence.wide n Try.prog 93 #[.pointer (some ⟨Bt, 0, none⟩)] encH (fun p => p ∈ t.heads 1 0) (KpT P) (fun ys => ys = t.heads 1 0) (fun pre => pre <+: t.heads 1 0) t.size w := fun l J Jx W hW hJ _ hY h0 => by
  have b0 := hBt.below hW hBt.lt
  have hp := walkT_in w0 P n0 W.heap.size l t.size hP (Nat.le_trans hn0 hW.size) (fun p => p ∈ t.heads 1 0) J Jx hJ (fun m pre x W1 h1 h2 h3 h4 => hY m pre x W1 h1 h2 h3 h4) t (n - 1) 1 0 sb sl [] W hb hh (by omega) (by omega) (by omega) (Nat.le_refl _) (hk.trans (KeepP.of_below hW)) h0 (by simp) (fun p hp => hp)
  obtain ⟨x1, x2, rfl, _⟩ := hb.shape
  obtain ⟨x3, x4, rfl, _⟩ := hh.shape
  dsimp only [wv] at hp
  rw [show ((1 : Nat) : Int) = 1 from rfl, show ((0 : Nat) : Int) = 0 from rfl] at hp
  have c0 := b0.cell 0
  have c1 := b0.cell 1
  have c2 := b0.cell 2
  have c3 := b0.cell 3
  have hdd : ∀ k : Nat, (Fence.wide.depth.isSome = true → 1 ≤ k) := fun k h => by cases h
  have hf51 : Fence.wide.fn 94 := trivial
  refine callsIn_of_wp Try.func93 rfl trivial ?_ rfl
  simp only [Try.ntmps93, List.size_toArray, List.length_cons, List.length_nil, Nat.reduceAdd, Nat.reduceSub, Array.replicate_succ, Array.replicate_zero, List.push_toArray, List.append_toArray, List.nil_append, List.cons_append]
  gi_wp2_with ((try refine ⟨hdd _, ?_⟩); gi_at_call 94; refine hp.mono ?_; clear hp; rintro e W1 (⟨rfl, hJ1, _⟩ | ⟨rfl, q, hq, hx⟩))
  · go_end0
    exact ⟨⟨_, rfl⟩, .inl ⟨_, rfl, by simpa using hJ1⟩⟩
  · go_end0
    exact ⟨⟨_, rfl⟩, .inr ⟨q, hq, by simpa using hx⟩⟩

theorem heads_in (n : Nat) (s r : Value) (k i : Int) (w : World) :
    CallsIn Fence.wide n Try.prog 56 #[tmv s k i r] w fun e w' => e = .returned (.func (.func 93) #[] #[.pointer (some ⟨w.heap.size, 0, none⟩)]) ∧ w' = w.alloc (.cells #[s, .int .i64 k, .int .i64 i, r] 34) := by
  refine callsIn_of_wp Try.func56 rfl trivial ?_ rfl
  simp only [Try.ntmps56, List.size_toArray, List.length_cons, List.length_nil, Nat.reduceAdd, Nat.reduceSub, Array.replicate_succ, Array.replicate_zero, List.push_toArray, List.append_toArray, List.nil_append, List.cons_append]
  gi_wp2
  go_ret
  exact ⟨rfl, rfl⟩

end Go.Proofs.Ytheokboggjnenaa
