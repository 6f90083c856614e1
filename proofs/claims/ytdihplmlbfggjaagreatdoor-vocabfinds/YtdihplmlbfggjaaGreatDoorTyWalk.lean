/-
  TyWalk: several texts in one file.
-/
import Derived.RangeFuncNested
import Derived.RangeFuncBound
import Derived.RangeFuncCalls
import Derived.RangeFuncLeaves
import Derived.Shelf.Abstract
import Derived.WalkKit
import Derived.OwnWalkIn
import Derived.TacticsInMore
import Derived.LoopNIn
import Derived.LoopIn
import Derived.WalkSpells
import Derived.Test.YtdihplmlbfggjaaGreatDoorTo
/-
  The contract of kind.walk: it gives a type and all types within, each ahead of its arguments', with their depths, to whatever loop body, till one says that it wants no more.
-/
namespace Go.Proofs.YtdihplmlbfggjaaGreatDoor
open Go Go.RowKit Go.Shelf

attribute [local go_sem] Oper.semAt_some

theorem room_of_none {F : Fence} (hd : F.depth = none) (k : Nat) : F.room k := fun d h => by rw [hd] at h; cases h
theorem roundAny {F : Fence} (hd : F.depth = none) {m m' : Nat} {P : Program} {l : Nat} {f : FuncId} {tmps : Array Value} {assign body : Code} {w : World} {R : Ending → World → Prop}
    (h : RoundIn F m P l f tmps assign body w R) : RoundIn F m' P l f tmps assign body w R := ⟨h.1, fun c cs _ => h.2 c cs (room_of_none hd _)⟩
theorem yieldAny {F : Fence} (hd : F.depth = none) {m : Nat} (m' : Nat) {P : Program} {l : Nat} {args : Array Value} {W : World} {R : Ending → World → Prop} (h : YieldAt F m P l args W R) : YieldAt F m' P l args W R := by
  obtain ⟨fn, tmps, assign, body, hy, hR⟩ := h
  exact ⟨fn, tmps, assign, body, hy, roundAny hd hR⟩

/-- What a round is handed: a depth and a type, which lies in memory that the loop found. -/
structure Item (w0 : World) (n0 : Nat) where
  d : Nat
  s : Value
  t : Ty
  h : Holds w0 (fun b => b < n0) t.args s
  z : t.size ≤ 1000000
def Item.key {w0 : World} {n0 : Nat} (x : Item w0 n0) : Nat × Ty := (x.d, x.t)
abbrev encI {w0 : World} {n0 : Nat} (x : Item w0 n0) : Array Value := #[.int .i64 (x.d : Int), tv x.s x.t.base]
def keys {w0 : World} {n0 : Nat} (l : List (Item w0 n0)) : List (Nat × Ty) := l.map Item.key
theorem keys_append {w0 : World} {n0 : Nat} (a b : List (Item w0 n0)) : keys (a ++ b) = keys a ++ keys b := List.map_append
theorem keys_length {w0 : World} {n0 : Nat} (a : List (Item w0 n0)) : (keys a).length = a.length := List.length_map _

/-- What a round that goes on keeps: all that lay below n0, and the blocks that hold types, or the round's own value. -/
def Kp (n0 : Nat) (W W' : World) : Prop := Below n0 W W' ∧ ∀ j t vs, (t = 42 ∨ t = 115) → Blk W j t vs → Blk W' j t vs
theorem Kp.refl (n0 : Nat) (W : World) : Kp n0 W W := ⟨Below.refl _ _, fun _ _ _ _ h => h⟩
theorem Kp.trans {n0 : Nat} {A B C : World} (h : Kp n0 A B) (k : Kp n0 B C) : Kp n0 A C := ⟨h.1.trans k.1, fun j t vs ht hb => k.2 j t vs ht (h.2 j t vs ht hb)⟩
theorem Kp.of_below {n0 : Nat} {A B : World} (h : Below A.heap.size A B) (hn : n0 ≤ A.heap.size) : Kp n0 A B := ⟨h.mono hn, fun _ _ _ _ hb => hb.below h hb.lt⟩
theorem Kp.alloc {n0 : Nat} {W : World} (hn : n0 ≤ W.heap.size) (o : Obj) : Kp n0 W (W.alloc o) := Kp.of_below ((Below.refl _ _).alloc (Nat.le_refl _) o) hn
theorem Kp.put {w : World} {n0 : Nat} (hn : n0 ≤ w.heap.size) (W : World) (l : Nat) (o o' : Obj) (hl : w.heap.size ≤ l) (h : W.heap[l]? = some o) (hc : o.isCells = false) (hw : o.isWalk = false) : Kp n0 W (W.putObj l o') :=
  ⟨belowK_b hn W l o o' hl h hc hw, fun _ _ _ _ hb => hb.put o' h hc⟩
theorem Kp.blk {n0 : Nat} {W W' : World} (h : Kp n0 W W') {j : Nat} {vs : Array Value} (hb : Blk W j 42 vs) : Blk W' j 42 vs := h.2 j 42 vs (.inl rfl) hb
/-- a store into a block that holds no type -/
theorem Kp.set {n0 : Nat} {W : World} {j : Nat} {t : TypeId} {vs : Array Value} (hb : Blk W j t vs) (hn : n0 ≤ j) (h1 : t ≠ 42) (h2 : t ≠ 115) (i : Nat) (u : Value) : Kp n0 W (W.setCell ⟨j, i, none⟩ u) :=
  ⟨bset (Below.refl _ _) hn u, fun k t' vs' ht hk => hk.other (fun e => by
    subst e
    have := hb.symm.trans hk
    simp at this
    rcases ht with h | h
    · exact h1 (this.2.trans h)
    · exact h2 (this.2.trans h)) i u⟩

theorem withinL_take {d : Nat} {ts : List Ty} {k : Nat} {u : Ty} (h : ts[k]? = some u) : withinL d (ts.take (k + 1)) = withinL d (ts.take k) ++ u.within d := by
  rw [List.take_add_one, h, withinL_append]; simp [withinL]
theorem withinL_prefix (d : Nat) (ts : List Ty) (k : Nat) : withinL d (ts.take k) <+: withinL d ts := by
  conv => rhs; rw [← List.take_append_drop k ts, withinL_append]
  exact List.prefix_append _ _

set_option maxRecDepth 100000 in
set_option maxHeartbeats 2000000 in
theorem walk_in (w0 : World) (n0 l N : Nat) (J Jx : List (Item w0 n0) → World → Prop) (hJ : ∀ pre W o, J pre W → J pre (W.alloc o))
    (hY : ∀ m pre x W, J pre W → pre.length < N → YieldAt Fence.wide m Tryz.prog l (encI x) W fun e W' => (e = .returned (.bool true) ∧ J (pre ++ [x]) W' ∧ Kp n0 W W') ∨ (e = .returned (.bool false) ∧ Jx (pre ++ [x]) W'))
    (t : Ty) : ∀ (n d : Nat) (sl : Value) (pre : List (Item w0 n0)) (W : World), Holds w0 (fun b => b < n0) t.args sl → t.size ≤ 1000000 → d + t.depth ≤ 1000000 → n0 ≤ W.heap.size → Below n0 w0 W → J pre W → pre.length + t.size ≤ N →
    CallsIn Fence.wide n Tryz.prog 57 #[tv sl t.base, .int .i64 (d : Int), .func (.yield l) #[] #[]] W fun e W' =>
      (e = .returned (.bool true) ∧ (∃ ys, keys ys = t.within d ∧ J (pre ++ ys) W') ∧ Kp n0 W W') ∨ (e = .returned (.bool false) ∧ ∃ q, keys q <+: t.within d ∧ Jx (pre ++ q) W') := by
  induction t using Ty.ind with
  | h t ih =>
  intro n d sl pre W hh hsz hdp hn0 hW0 hJ0 hN
  have HH := hh
  obtain ⟨ts, hts⟩ : ∃ ts, t.args = ts := ⟨_, rfl⟩
  have hsz2 := t.size_eq
  have hdp2 := t.depth_eq
  have hwi := t.within_eq d
  rw [hts] at hh ih hsz2 hdp2 hwi
  have HWI : Hid _ := hwi
  clear hwi
  obtain ⟨a, cap, rfl, hcap, hat⟩ := hh.shape
  have HA : Hid _ := hat
  clear hat hh
  have hln := sizeL_length ts
  obtain ⟨B, hB⟩ : ∃ B, W.heap.size = B := ⟨_, rfl⟩
  have hdd : ∀ k : Nat, (Fence.wide.depth.isSome = true → 1 ≤ k) := fun k h => by cases h
  have hf51 : Fence.wide.fn 57 := trivial
  obtain ⟨W1, hW1⟩ : ∃ W1, W.alloc (.cells #[.slice a ts.length cap, .int .i64 t.base] 42) = W1 := ⟨_, rfl⟩
  have b0 : Blk W1 B 42 #[.slice a ts.length cap, .int .i64 t.base] := by rw [← hW1]; exact Blk.new' W B 42 _ hB
  have hJ1 : J pre W1 := by rw [← hW1]; exact hJ _ _ _ hJ0
  have k1 : Kp n0 W W1 := by rw [← hW1]; exact Kp.alloc hn0 _
  obtain ⟨fn, tmps, assign, body, hy, hR⟩ := hY (n - 1) pre ⟨d, .slice a ts.length cap, t, by rw [hts] at HH; rw [hts]; exact HH, hsz⟩ W1 hJ1 (by omega)
  dsimp only [encI] at hy
  have c0 := b0.cell 0
  have c1 := b0.cell 1
  refine callsIn_of_wp Tryz.func57 rfl trivial ?_ rfl
  simp only [Tryz.ntmps57, List.size_toArray, List.length_cons, List.length_nil, Nat.reduceAdd, Nat.reduceSub, Array.replicate_succ, Array.replicate_zero, List.push_toArray, List.append_toArray, List.nil_append, List.cons_append]
  gi_wp2
  refine ⟨hdd _, ?_⟩
  refine hR.mono ?_
  clear hR hy
  rintro e W2 (⟨rfl, hJ2, k2⟩ | ⟨rfl, hJx2⟩)
  · have b2 := k2.blk b0
    have c2 := b2.cell 0
    have kw := k1.trans k2
    clear b0 c0 c1 k1 k2 hJ1 hJ0 hW1 b2
    gi_wp2
    gi_loopw [17] (fun i wr => ∃ (k : Nat) (ys : List (Item w0 n0)), k ≤ ts.length ∧ i = .int .i64 k ∧ Hid (keys ys = (d, t) :: withinL (d + 1) (ts.take k)) ∧ J (pre ++ ys) wr ∧ Kp n0 W wr)
      (fun i _ => ts.length - (intOf i).toNat)
    case atStart => exact ⟨0, [⟨d, .slice a ts.length cap, t, by rw [hts] at HH; rw [hts]; exact HH, hsz⟩], Nat.zero_le _, rfl, by show _ = _; simp [keys, Item.key, withinL], hJ2, kw⟩
    case round =>
      clear hJ2 kw c2
      obtain ⟨k, ys, hk, rfl, HK, hJk, kw⟩ := hrel
      have hyl : ys.length = 1 + sizeL (ts.take k) := by
        have := congrArg List.length HK.out
        rw [keys_length, List.length_cons, withinL_length _ _ (fun t _ => t.within_length)] at this
        omega
      by_cases hlt : k < ts.length
      · obtain ⟨u, hu⟩ : ∃ u, ts[k]? = some u := ⟨_, List.getElem?_eq_getElem hlt⟩
        obtain ⟨g, o, s, rfl, hg, _, a0, a1, hs⟩ := HA.out k u hu
        have hwr : Below n0 w0 wr := hW0.trans kw.1
        have q0 := (cat hwr hg).trans a0
        have q1 := (cat hwr hg).trans a1
        have hm := List.mem_of_getElem? hu
        have hus := size_mem hm
        have hud := depth_mem hm
        have y1 : (0 : Int) ≤ (k : Int) := by omega
        have y2 : (k : Int) < (ts.length : Int) := by omega
        have hle : sizeL (ts.take k) + u.size ≤ sizeL ts := by rw [← sizeL_take hu]; exact sizeL_take_le ts (k + 1)
        have HK2 : Hid (keys ys ++ u.within (d + 1) = (d, t) :: withinL (d + 1) (ts.take (k + 1))) := by show _ = _; rw [HK.out, withinL_take hu]; rfl
        have HPX : Hid (keys ys ++ u.within (d + 1) <+: t.within d) := by
          show _ <+: _
          rw [HK2.out, HWI.out]
          exact List.prefix_cons_inj _ |>.2 (withinL_prefix _ _ _)
        have hn3 : n0 ≤ wr.heap.size := Nat.le_trans hn0 kw.1.size
        have hcall := ih u hm (n - 1) (d + 1) s (pre ++ ys) (wr.alloc (.cells #[s, .int .i64 u.base] 42)) hs (by omega) (by omega) (by simp; omega) (hwr.alloc hn3 _) (hJ _ _ _ hJk) (by simp; omega)
        rw [show ((d + 1 : Nat) : Int) = (d : Int) + 1 by omega] at hcall
        have k3 : Kp n0 W (wr.alloc (.cells #[s, .int .i64 u.base] 42)) := kw.trans (Kp.alloc hn3 _)
        obtain ⟨sa, sc, rfl, _⟩ := hs.shape
        clear a0 a1 hu HK ih
        gi_wp2_with ((try refine ⟨hdd _, ?_⟩); gi_at_call 57; refine hcall.mono ?_; clear hcall; rintro e W3 (⟨rfl, ⟨zs, hz, hJ3⟩, k4⟩ | ⟨rfl, q, hq, hJx3⟩))
        · go_roundw
          case rel => exact ⟨k + 1, ys ++ zs, by omega, by go_num, by show _ = _; rw [keys_append, hz]; exact HK2.out, by rw [← List.append_assoc]; exact hJ3, k3.trans k4⟩
          case measure => simp [intOf]; omega
        · go_ret
          refine .inr ⟨rfl, ys ++ q, ?_, by rw [← List.append_assoc]; exact hJx3⟩
          rw [keys_append]
          exact List.IsPrefix.trans ((List.prefix_append_right_inj _).2 hq) HPX.out
      · obtain rfl : k = ts.length := by omega
        gi_wp2
        go_ret
        exact .inl ⟨rfl, ⟨ys, by rw [HK.out, HWI.out, List.take_length], hJk⟩, kw⟩
  · gi_wp2
    go_ret
    refine .inr ⟨rfl, _, ?_, hJx2⟩
    rw [HWI.out]
    simp [keys, Item.key]

end Go.Proofs.YtdihplmlbfggjaaGreatDoor

/-
  The contracts of kind.within, and of kind.Size, kind.Depth, kind.Order, kind.Right.
-/
namespace Go.Proofs.YtdihplmlbfggjaaGreatDoor
open Go Go.RowKit Go.Shelf

attribute [local go_sem] Oper.semAt_some

set_option maxRecDepth 100000 in
set_option maxHeartbeats 2000000 in
theorem within_stops (w0 : World) (n0 n Bt : Nat) (t : Ty) (sl : Value) (w : World) (hBt : Blk w Bt 42 #[sl, .int .i64 t.base]) (hh : Holds w0 (fun b => b < n0) t.args sl) (hsz : t.size ≤ 900000) (hn0 : n0 ≤ w.heap.size) (hb : Below n0 w0 w) :
    SeqStopsK Fence.wide n Tryz.prog 56 #[.pointer (some ⟨Bt, 0, none⟩)] (encI (w0 := w0) (n0 := n0)) (Kp n0) (fun ys => keys ys = t.within 1) (fun pre => keys pre <+: t.within 1) t.size w := fun l J Jx W hW hJ _ hY h0 => by
  have b0 := hBt.below hW hBt.lt
  have hd := t.depth_le_size
  have hp := walk_in w0 n0 l t.size J Jx (fun pre W' o hj => hJ pre W' _ none hj (World.grownBy_alloc W' o none) (fun r e => by cases e)) (fun m pre x W hj hl => yieldAny rfl m (hY pre x W hj hl)) t (n - 1) 1 sl [] W hh (by omega) (by omega) (Nat.le_trans hn0 hW.size) (hb.trans (hW.mono hn0)) h0 (by simp)
  rw [show ((1 : Nat) : Int) = 1 from rfl] at hp
  have c0 := b0.cell 0
  have c1 := b0.cell 1
  have hdd : ∀ k : Nat, (Fence.wide.depth.isSome = true → 1 ≤ k) := fun k h => by cases h
  have hf51 : Fence.wide.fn 57 := trivial
  refine callsIn_of_wp Tryz.func56 rfl trivial ?_ rfl
  simp only [Tryz.ntmps56, List.size_toArray, List.length_cons, List.length_nil, Nat.reduceAdd, Nat.reduceSub, Array.replicate_succ, Array.replicate_zero, List.push_toArray, List.append_toArray, List.nil_append, List.cons_append]
  gi_wp2_with ((try refine ⟨hdd _, ?_⟩); gi_at_call 57; refine hp.mono ?_; clear hp; rintro e W1 (⟨rfl, ⟨ys, hys, hJ1⟩, _⟩ | ⟨rfl, q, hq, hx⟩))
  · go_end0
    exact ⟨⟨_, rfl⟩, .inl ⟨_, hys, by simpa using hJ1⟩⟩
  · go_end0
    exact ⟨⟨_, rfl⟩, .inr ⟨q, hq, by simpa using hx⟩⟩

theorem within_in (n : Nat) (s : Value) (b : Int) (w : World) :
    CallsIn Fence.wide n Tryz.prog 43 #[tv s b] w fun e w' => e = .returned (.func (.func 56) #[] #[.pointer (some ⟨w.heap.size, 0, none⟩)]) ∧ w' = w.alloc (.cells #[s, .int .i64 b] 42) := by
  refine callsIn_of_wp Tryz.func43 rfl trivial ?_ rfl
  simp only [Tryz.ntmps43, List.size_toArray, List.length_cons, List.length_nil, Nat.reduceAdd, Nat.reduceSub, Array.replicate_succ, Array.replicate_zero, List.push_toArray, List.append_toArray, List.nil_append, List.cons_append]
  gi_wp2
  go_ret
  exact ⟨rfl, rfl⟩

/-- The greatest depth that has come. -/
def dmax : List (Nat × Ty) → Nat
  | [] => 0
  | p :: r => max p.1 (dmax r)
theorem dmax_append (a b : List (Nat × Ty)) : dmax (a ++ b) = max (dmax a) (dmax b) := by
  induction a with
  | nil => simp [dmax]
  | cons p a ih => simp only [List.cons_append, dmax, ih]; omega
theorem dmax_withinL (l : List Ty) (h : ∀ t ∈ l, ∀ d, 1 ≤ d → dmax (t.within d) + 1 = d + t.depth) (d : Nat) (hd : 1 ≤ d) : max (d - 1) (dmax (withinL d l)) = d - 1 + depthL l := by
  induction l with
  | nil => simp [withinL, dmax, depthL]
  | cons t r ih =>
    have h1 := h t (by simp) d hd
    have h2 := ih (fun u hu => h u (by simp [hu]))
    have h3 := t.depth_pos
    simp only [withinL, depthL, dmax_append]
    omega
theorem dmax_within (t : Ty) : ∀ d, 1 ≤ d → dmax (t.within d) + 1 = d + t.depth := by
  induction t using Ty.ind with
  | h t ih =>
    intro d hd
    have := dmax_withinL t.args ih (d + 1) (by omega)
    rw [t.within_eq, t.depth_eq]
    simp only [dmax]
    omega

end Go.Proofs.YtdihplmlbfggjaaGreatDoor

/-
  The contracts of kind.Order and kind.Right.
-/
namespace Go.Proofs.YtdihplmlbfggjaaGreatDoor
open Go Go.RowKit Go.Shelf

attribute [local go_sem] Oper.semAt_some

def Good (n : Int) (l : List (Nat × Ty)) : Prop := l.length ≤ 1000 ∧ ∀ p ∈ l, p.1 ≤ 60 ∧ 0 ≤ p.2.base ∧ p.2.base < n
theorem Good.nil (n : Int) : Good n [] := ⟨by simp, fun p hp => by cases hp⟩
theorem Good.snoc {n : Int} {l : List (Nat × Ty)} {p : Nat × Ty} (h : Good n l) (h0 : l.length + 1 ≤ 1000) (h1 : p.1 ≤ 60) (h2 : 0 ≤ p.2.base) (h3 : p.2.base < n) : Good n (l ++ [p]) :=
  ⟨by simpa using h0, fun q hq => by
    rcases List.mem_append.1 hq with hq | hq
    · exact h.2 q hq
    · rw [List.mem_singleton.1 hq]; exact ⟨h1, h2, h3⟩⟩
theorem Good.prefix {n : Int} {l m : List (Nat × Ty)} (h : Good n m) (hp : l <+: m) : Good n l :=
  ⟨Nat.le_trans hp.length_le h.1, fun p hm => h.2 p (hp.subset hm)⟩
theorem dmax_le {l : List (Nat × Ty)} {p : Nat × Ty} (h : p ∈ l) : p.1 ≤ dmax l := by
  induction l with
  | nil => cases h
  | cons q l ih =>
    rcases List.mem_cons.1 h with rfl | h
    · simp [dmax]; omega
    · have := ih h; simp [dmax]; omega
theorem dmax_max (l : List (Nat × Ty)) (k : Nat) (h : ∀ p ∈ l, p.1 ≤ k) : dmax l ≤ k := by
  induction l with
  | nil => simp [dmax]
  | cons q l ih =>
    have := h q (by simp)
    have := ih (fun p hp => h p (by simp [hp]))
    simp [dmax]; omega
theorem lowL_within (n : Int) (l : List Ty) (h : ∀ t ∈ l, ∀ d, t.low n = true ↔ ∀ p ∈ t.within d, 0 ≤ p.2.base ∧ p.2.base < n) (d : Nat) : lowL n l = true ↔ ∀ p ∈ withinL d l, 0 ≤ p.2.base ∧ p.2.base < n := by
  induction l with
  | nil => simp [lowL, withinL]
  | cons t r ih =>
    rw [lowL, Bool.and_eq_true, h t (by simp) d, ih (fun u hu => h u (by simp [hu]))]
    simp only [withinL, List.mem_append]
    constructor
    · rintro ⟨h1, h2⟩ p (hp | hp)
      · exact h1 p hp
      · exact h2 p hp
    · intro h1
      exact ⟨fun p hp => h1 p (.inl hp), fun p hp => h1 p (.inr hp)⟩
theorem low_within (n : Int) (t : Ty) : ∀ d, t.low n = true ↔ ∀ p ∈ t.within d, 0 ≤ p.2.base ∧ p.2.base < n := by
  induction t using Ty.ind with
  | h t ih =>
    intro d
    rw [t.low_eq, t.within_eq, Bool.and_eq_true, Bool.and_eq_true, lowL_within n t.args ih (d + 1), decide_eq_true_iff, decide_eq_true_iff]
    simp only [List.mem_cons]
    constructor
    · rintro ⟨⟨h1, h2⟩, h3⟩ p (rfl | hp)
      · exact ⟨h1, h2⟩
      · exact h3 p hp
    · intro h1
      exact ⟨h1 _ (.inl rfl), fun p hp => h1 p (.inr hp)⟩
theorem right_iff (n : Int) (t : Ty) : rightB n t = true ↔ Good n (t.within 1) := by
  have hd := dmax_within t 1 (by omega)
  unfold rightB fewB Good
  rw [Bool.and_eq_true, decide_eq_true_iff, low_within n t 1, t.within_length]
  constructor
  · rintro ⟨⟨h1, h2⟩, h3⟩
    exact ⟨h1, fun p hp => ⟨by have := dmax_le hp; omega, h3 p hp⟩⟩
  · rintro ⟨h1, h2⟩
    refine ⟨⟨h1, ?_⟩, fun p hp => (h2 p hp).2⟩
    have := dmax_max _ 60 (fun p hp => (h2 p hp).1)
    omega
theorem right_not {n : Int} {t : Ty} {l : List (Nat × Ty)} (h : ¬ Good n l) (hp : l <+: t.within 1) : rightB n t = false := by
  cases hr : rightB n t with
  | false => rfl
  | true => exact absurd (((right_iff n t).1 hr).prefix hp) h

def IRight (w : World) (N : Nat) (n : Int) (l : List (Nat × Ty)) (W : World) : Prop :=
  (Blk W (N + 1) 3 #[.int .i64 n] ∧ Blk W (N + 1 + 1) 4 #[.bool false] ∧ Blk W (N + 1 + 1 + 1) 3 #[.int .i64 (l.length : Int)] ∧ Good n l) ∧ Below N w W
def XRight (w : World) (N : Nat) (n : Int) (c : Code) (l : List (Nat × Ty)) (W : World) : Prop :=
  (c = .ret ∧ Blk W (N + 1 + 1) 4 #[.bool false] ∧ ¬ Good n l) ∧ Below N w W
def actRight (N : Nat) (n : Int) (a : Option Addr) (tn cap : Nat) (base : Int) (d : Int) (s : Value) (b : Int) (Bx : Nat) : Act :=
  { tmps := #[tv (.slice a tn cap) base, .int .i64 n, .pointer (some ⟨N, 0, none⟩), .pointer (some ⟨N + 1, 0, none⟩), .pointer (some ⟨N + 1 + 1, 0, none⟩), .pointer (some ⟨N + 1 + 1 + 1, 0, none⟩), .int .i64 d, .pointer (some ⟨Bx, 0, none⟩), .agg #[.slice a tn cap, .int .i64 base], .func (.func 56) #[] #[.pointer (some ⟨N + 1 + 1 + 1 + 1, 0, none⟩)], .int .i64 d, tv s b, undef, undef, undef, undef, undef, undef, undef, undef, undef, undef, undef, undef, undef, undef, undef, undef, undef, undef, undef], defers := [] }

set_option maxRecDepth 100000 in
set_option maxHeartbeats 2000000 in
theorem kRight_calls (n : Int) (t : Ty) (ok : Nat → Prop) (sl : Value) (w : World) (hh : Holds w ok t.args sl) (hsz : t.size ≤ 900000) :
    Calls Tryz.prog 34 #[tv sl t.base, .int .i64 n] w fun e w' => e = .returned (.bool (rightB n t)) ∧ Below w.heap.size w w' := by
  refine (callsIn_wide (n := 9)).1 ?_
  have h1 : 1 ≤ 9 := by omega
  have hf36 : Fence.wide.fn 43 := trivial
  obtain ⟨N, hN⟩ : ∃ N, w.heap.size = N := ⟨_, rfl⟩
  have hh0 : Holds w (fun b => b < N) t.args sl := hh.mono fun b hb _ => by omega
  obtain ⟨a, cap, hsl, _⟩ := hh.shape
  generalize t.args.length = tn at hsl
  subst hsl
  refine callsIn_of_wp_marks Tryz.func34 rfl trivial ?_ rfl
  simp only [Tryz.ntmps34, List.size_toArray, List.length_cons, List.length_nil, Nat.reduceAdd, Nat.reduceSub, Array.replicate_succ, Array.replicate_zero, List.push_toArray, List.append_toArray, List.nil_append, List.cons_append]
  gi_wp2_with (gi_at_call 43; refine (within_in _ _ _ _).mono ?_; rintro e w' ⟨rfl, rfl⟩)
  obtain ⟨W0, hW0⟩ : ∃ W0, ((((w.alloc (.cells #[.slice a tn cap, .int .i64 t.base] 42)).alloc (.cells #[.int .i64 n] 3)).alloc (.cells #[.bool false] 4)).alloc (.cells #[.int .i64 0] 3)).alloc (.cells #[.slice a tn cap, .int .i64 t.base] 42) = W0 := ⟨_, rfl⟩
  have b1 : Blk W0 (N + 1) 3 #[.int .i64 n] := by rw [← hW0]; exact (((Blk.new' _ (N + 1) 3 _ (by simp [hN])).alloc _).alloc _).alloc _
  have b2 : Blk W0 (N + 1 + 1) 4 #[.bool false] := by rw [← hW0]; exact ((Blk.new' _ (N + 1 + 1) 4 _ (by simp [hN])).alloc _).alloc _
  have b3 : Blk W0 (N + 1 + 1 + 1) 3 #[.int .i64 0] := by rw [← hW0]; exact (Blk.new' _ (N + 1 + 1 + 1) 3 _ (by simp [hN])).alloc _
  have b4 : Blk W0 (N + 1 + 1 + 1 + 1) 42 #[.slice a tn cap, .int .i64 t.base] := by rw [← hW0]; exact Blk.new' _ (N + 1 + 1 + 1 + 1) 42 _ (by simp [hN])
  have hsz0 : W0.heap.size = N + 5 := by rw [← hW0]; simp [hN]
  have hb : Below N w W0 := by rw [← hW0]; exact (((((Below.refl N w).alloc (by simp [hN]) _).alloc (by simp [hN]) _).alloc (by simp [hN]; omega) _).alloc (by simp [hN]; omega) _).alloc (by simp [hN]; omega) _
  rw [hW0]
  have HN : Hid (w.heap.size = N) := hN
  clear hW0 hN
  refine wpIn_rangeFunc_ownH rfl h1 (gf := 56) (lb := #[.pointer (some ⟨N + 1 + 1 + 1 + 1, 0, none⟩)]) rfl trivial (enters_of Tryz.func56 (by kernel_rfl) rfl)
    (within_stops w N (9 - 1) (N + 1 + 1 + 1 + 1) t (.slice a tn cap) W0 b4 hh0 hsz (by omega) hb) Kp.trans (Kp.put (by omega)) (Below.refl _ _) (fun _ => rfl)
    (fun pre W => IRight w N n (keys pre) W)
    (fun c pre W => XRight w N n c (keys pre) W)
    (OwnFrom.and (fun s A B row hs hg hr => by
        have hr' := fun r e => (hr r e).2
        exact ⟨hs.1.own hg hr', hs.2.1.own hg hr', hs.2.2.1.own hg hr', hs.2.2.2⟩) (ownFrom_below (by rw [HN.out]; exact Nat.le_refl _) (by omega)))
    (fun c => OwnFrom.and (fun s A B row hs hg hr => by
        have hr' := fun r e => (hr r e).2
        exact ⟨hs.1, hs.2.1.own hg hr', hs.2.2⟩) (ownFrom_below (by rw [HN.out]; exact Nat.le_refl _) (by omega)))
    ⟨⟨b1, b2, b3, Good.nil n⟩, hb⟩
    (fun x a' W => ∃ Bx, N + 1 + 1 + 1 < Bx ∧ Blk W Bx 42 #[x.s, .int .i64 x.t.base] ∧ a' = actRight N n a tn cap t.base x.d x.s x.t.base Bx)
    (fun x a' _ X Y row hs hg hr => by obtain ⟨Bx, h1, h2, h3⟩ := hs; exact ⟨Bx, h1, h2.own hg (fun r e => (hr r e).2), h3⟩)
    ?assign ?body ?done ?stop
  case assign =>
    rintro l pre x W K ⟨⟨c1, c2, c3, hg⟩, hbl⟩ hK
    obtain ⟨xa, xc, hxs, _⟩ := x.h.shape
    have hKx := hK (actRight N n a tn cap t.base x.d x.s x.t.base W.heap.size) (W.alloc (.cells #[x.s, .int .i64 x.t.base] 42)) ((KeepsOthers.alloc _ _).from _) (Kp.alloc (by have := hbl.size; have := HN.out; omega) _) ⟨⟨c1.alloc _, c2.alloc _, c3.alloc _, hg⟩, hbl.alloc (by have := hbl.size; have := HN.out; omega) _⟩ ⟨W.heap.size, c3.lt, Blk.new W 42 _, rfl⟩
    clear hK
    unfold actRight at hKx
    simp only [encI]
    rw [hxs] at hKx ⊢
    gi_wp2
    simpa using hKx
  case body =>
    rintro l pre x a' W hl _ ⟨⟨c1, c2, c3, hg⟩, hbl⟩ ⟨Bx, hBx, bX, rfl⟩ hlen
    unfold actRight
    obtain ⟨m, hm⟩ : ∃ m, (keys pre).length = m := ⟨_, rfl⟩
    have hml : m < t.size := by rw [← hm, keys_length]; exact hlen
    rw [hm] at c3
    have q1 := c1.cell 0
    have q3 := c3.cell 0
    have f3 := c3.frozen 0
    have qX := bX.cell 1
    have hk1 : keys (pre ++ [x]) = keys pre ++ [(x.d, x.t)] := by rw [keys_append]; rfl
    have HG : Hid (m + 1 ≤ 1000 → x.d ≤ 60 → 0 ≤ x.t.base → x.t.base < n → Good n (keys (pre ++ [x]))) := fun g1 g2 g3 g4 => by
      rw [hk1]; exact hg.snoc (by omega) g2 g3 g4
    have HB : Hid (1000 < m + 1 ∨ 60 < x.d ∨ x.t.base < 0 ∨ n ≤ x.t.base → ¬ Good n (keys (pre ++ [x]))) := fun g1 g2 => by
      rw [hk1] at g2
      have a1 := g2.1
      have a2 := g2.2 (x.d, x.t) (by simp)
      simp at a1 a2
      omega
    have HL : Hid ((keys (pre ++ [x])).length = m + 1) := by show _ = _; rw [hk1]; simp [hm]
    have HM : Hid ((keys pre).length = m) := hm
    clear hk1 hm hg
    have s3 := c3.set 0 (.int .i64 ((m : Int) + 1))
    have k3 : Kp N W (W.setCell ⟨N + 1 + 1 + 1, 0, none⟩ (.int .i64 ((m : Int) + 1))) := Kp.set c3 (by omega) (by decide) (by decide) 0 _
    have s1 := c1.other (B' := N + 1 + 1 + 1) (by omega) 0 (.int .i64 ((m : Int) + 1))
    have s2 := c2.other (B' := N + 1 + 1 + 1) (by omega) 0 (.int .i64 ((m : Int) + 1))
    have sX := bX.other (B' := N + 1 + 1 + 1) (by omega) 0 (.int .i64 ((m : Int) + 1))
    have sb : Below N w (W.setCell ⟨N + 1 + 1 + 1, 0, none⟩ (.int .i64 ((m : Int) + 1))) := bset hbl (by omega) _
    have sk := (KeepsOthers.setCell W ⟨N + 1 + 1 + 1, 0, none⟩ (.int .i64 ((m : Int) + 1)))
    have q2 := c2.cell 0
    have f2 := c2.frozen 0
    have bad : Hid (1000 < m + 1 ∨ 60 < x.d ∨ x.t.base < 0 ∨ n ≤ x.t.base → KeepsFrom (N + 5) W ((W.setCell ⟨N + 1 + 1 + 1, 0, none⟩ (.int .i64 ((m : Int) + 1))).setCell ⟨N + 1 + 1, 0, none⟩ (.bool false)) ∧
        XRight w N n .ret (keys (pre ++ [x])) ((W.setCell ⟨N + 1 + 1 + 1, 0, none⟩ (.int .i64 ((m : Int) + 1))).setCell ⟨N + 1 + 1, 0, none⟩ (.bool false))) := fun g =>
      ⟨(sk.trans (KeepsOthers.setCell _ _ _)).from _, ⟨rfl, s2.set 0 _, HB.out g⟩, bset sb (by omega) _⟩
    have good : Hid (¬ 1000 < m + 1 → ¬ 60 < x.d → ¬ x.t.base < 0 → ¬ n ≤ x.t.base → KeepsFrom (N + 5) W (W.setCell ⟨N + 1 + 1 + 1, 0, none⟩ (.int .i64 ((m : Int) + 1))) ∧ Kp N W (W.setCell ⟨N + 1 + 1 + 1, 0, none⟩ (.int .i64 ((m : Int) + 1))) ∧
        IRight w N n (keys (pre ++ [x])) (W.setCell ⟨N + 1 + 1 + 1, 0, none⟩ (.int .i64 ((m : Int) + 1)))) := fun g1 g2 g3 g4 =>
      ⟨sk.from _, k3, ⟨s1, s2, by rw [HL.out]; simpa using s3, HG.out (by omega) (by omega) (by omega) (by omega)⟩, sb⟩
    clear s3 k3 s1 s2 sX sb sk HG HB HL c1 c2 c3 bX
    by_cases g1 : 1000 < m + 1
    · have z1 : decide ((1000 : Int) < (m : Int) + 1) = true := by simp; omega
      gi_wp2
      exact bad.out (.inl g1)
    · have z1 : decide ((1000 : Int) < (m : Int) + 1) = false := by simp; omega
      by_cases g2 : 60 < x.d
      · have z2 : decide ((60 : Int) < (x.d : Int)) = true := by simp; omega
        gi_wp2
        exact bad.out (.inr (.inl g2))
      · have z2 : decide ((60 : Int) < (x.d : Int)) = false := by simp; omega
        by_cases g3 : x.t.base < 0
        · have z3 : decide (x.t.base < 0) = true := by simp; omega
          gi_wp2
          exact bad.out (.inr (.inr (.inl g3)))
        · have z3 : decide (x.t.base < 0) = false := by simp; omega
          by_cases g4 : n ≤ x.t.base
          · have z4 : decide (n ≤ x.t.base) = true := by simp; omega
            gi_wp2
            exact bad.out (.inr (.inr (.inr g4)))
          · have z4 : decide (n ≤ x.t.base) = false := by simp; omega
            gi_wp2
            exact good.out g1 g2 g3 g4
  case done =>
    rintro D ys W hD hys ⟨⟨c1, c2, c3, hg⟩, hbl⟩ hK
    rw [hys] at hg
    have hr := (right_iff n t).2 hg
    have q2 := c2.cell 0
    have f2 := c2.frozen 0
    gi_wp2
    have s2 := c2.set 0 (.bool true)
    have sb : Below N w (W.setCell ⟨N + 1 + 1, 0, none⟩ (.bool true)) := bset hbl (by omega) _
    have hK' := (KeepsOthers.setCell W ⟨N + 1 + 1, 0, none⟩ (.bool true)).same D _ hK rfl
    generalize W.setCell ⟨N + 1 + 1, 0, none⟩ (.bool true) = W3 at *
    refine ⟨by simp, .inl ⟨_, _, rfl, run_takeDeferred hK', ?_⟩⟩
    have e1 : (W3.putObj D (.deferred none)).cell? ⟨N + 1 + 1, 0, none⟩ = some (.bool true) := (s2.put (.deferred none) hK' rfl).cell 0
    refine ⟨.bool true, ?_, by rw [hr], ?_⟩
    · simp [results, Tryz.f34, go_sem, e1]
    · rw [HN.out]
      exact sb.trans (belowK_b (w := W0) (by omega) W3 D _ _ hD hK' rfl rfl)
  case stop =>
    rintro D c pre W hD hpre ⟨⟨rfl, c2, hg⟩, hbl⟩ hK
    have hr := right_not hg hpre
    have q2 := c2.cell 0
    gi_wp2
    refine ⟨by simp, .inl ⟨_, _, rfl, run_takeDeferred hK, ?_⟩⟩
    have e1 : (W.putObj D (.deferred none)).cell? ⟨N + 1 + 1, 0, none⟩ = some (.bool false) := (c2.put (.deferred none) hK rfl).cell 0
    refine ⟨.bool false, ?_, by rw [hr], ?_⟩
    · simp [results, Tryz.f34, go_sem, e1]
    · rw [HN.out]
      exact hbl.trans (belowK_b (w := W0) (by omega) W D _ _ hD hK rfl rfl)

end Go.Proofs.YtdihplmlbfggjaaGreatDoor

