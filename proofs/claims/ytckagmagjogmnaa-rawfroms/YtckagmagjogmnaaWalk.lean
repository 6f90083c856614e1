/-
  The contract of kind.walk: it gives a type and all types within, each ahead of its arguments', with their depths, to whatever loop body, till one says that it wants no more.
-/
import Derived.RangeFuncNested
import Derived.RangeFuncBound
import Derived.RangeFuncCalls
import Derived.RangeFuncLeaves
import Derived.Shelf.Abstract
import Derived.WalkKit
import Derived.OwnWalkIn
import Derived.TacticsInMore
import Derived.LoopNIn
import Derived.LoopIn
import Derived.WalkSpells
import Derived.Test.YtckagmagjogmnaaTo
namespace Go.Proofs.Ytckagmagjogmnaa
open Go Go.RowKit Go.Shelf

attribute [local go_sem] Oper.semAt_some

theorem room_of_none {F : Fence} (hd : F.depth = none) (k : Nat) : F.room k := fun d h => by rw [hd] at h; cases h
theorem roundAny {F : Fence} (hd : F.depth = none) {m m' : Nat} {P : Program} {l : Nat} {f : FuncId} {tmps : Array Value} {assign body : Code} {w : World} {R : Ending → World → Prop}
    (h : RoundIn F m P l f tmps assign body w R) : RoundIn F m' P l f tmps assign body w R := ⟨h.1, fun c cs _ => h.2 c cs (room_of_none hd _)⟩
theorem yieldAny {F : Fence} (hd : F.depth = none) {m : Nat} (m' : Nat) {P : Program} {l : Nat} {args : Array Value} {W : World} {R : Ending → World → Prop} (h : YieldAt F m P l args W R) : YieldAt F m' P l args W R := by
  obtain ⟨fn, tmps, assign, body, hy, hR⟩ := h
  exact ⟨fn, tmps, assign, body, hy, roundAny hd hR⟩

/-- What a round is handed: a depth and a type, which lies in memory that the loop found. -/
structure Item (w0 : World) (n0 : Nat) where
  d : Nat
  s : Value
  t : Ty
  h : Holds w0 (fun b => b < n0) t.args s
  z : t.size ≤ 1000000
def Item.key {w0 : World} {n0 : Nat} (x : Item w0 n0) : Nat × Ty := (x.d, x.t)
abbrev encI {w0 : World} {n0 : Nat} (x : Item w0 n0) : Array Value := #[.int .i64 (x.d : Int), tv x.s x.t.base]
def keys {w0 : World} {n0 : Nat} (l : List (Item w0 n0)) : List (Nat × Ty) := l.map Item.key
theorem keys_append {w0 : World} {n0 : Nat} (a b : List (Item w0 n0)) : keys (a ++ b) = keys a ++ keys b := List.map_append
theorem keys_length {w0 : World} {n0 : Nat} (a : List (Item w0 n0)) : (keys a).length = a.length := List.length_map _

/-- What a round that goes on keeps: all that lay below n0, and the blocks that hold types, or the round's own value. -/
def Kp (n0 : Nat) (W W' : World) : Prop := Below n0 W W' ∧ ∀ j t vs, (t = 32 ∨ t = 9175) → Blk W j t vs → Blk W' j t vs
theorem Kp.refl (n0 : Nat) (W : World) : Kp n0 W W := ⟨Below.refl _ _, fun _ _ _ _ h => h⟩
theorem Kp.trans {n0 : Nat} {A B C : World} (h : Kp n0 A B) (k : Kp n0 B C) : Kp n0 A C := ⟨h.1.trans k.1, fun j t vs ht hb => k.2 j t vs ht (h.2 j t vs ht hb)⟩
theorem Kp.of_below {n0 : Nat} {A B : World} (h : Below A.heap.size A B) (hn : n0 ≤ A.heap.size) : Kp n0 A B := ⟨h.mono hn, fun _ _ _ _ hb => hb.below h hb.lt⟩
theorem Kp.alloc {n0 : Nat} {W : World} (hn : n0 ≤ W.heap.size) (o : Obj) : Kp n0 W (W.alloc o) := Kp.of_below ((Below.refl _ _).alloc (Nat.le_refl _) o) hn
theorem Kp.put {w : World} {n0 : Nat} (hn : n0 ≤ w.heap.size) (W : World) (l : Nat) (o o' : Obj) (hl : w.heap.size ≤ l) (h : W.heap[l]? = some o) (hc : o.isCells = false) (hw : o.isWalk = false) : Kp n0 W (W.putObj l o') :=
  ⟨belowK_b hn W l o o' hl h hc hw, fun _ _ _ _ hb => hb.put o' h hc⟩
theorem Kp.blk {n0 : Nat} {W W' : World} (h : Kp n0 W W') {j : Nat} {vs : Array Value} (hb : Blk W j 32 vs) : Blk W' j 32 vs := h.2 j 32 vs (.inl rfl) hb
/-- a store into a block that holds no type -/
theorem Kp.set {n0 : Nat} {W : World} {j : Nat} {t : TypeId} {vs : Array Value} (hb : Blk W j t vs) (hn : n0 ≤ j) (h1 : t ≠ 32) (h2 : t ≠ 9175) (i : Nat) (u : Value) : Kp n0 W (W.setCell ⟨j, i, none⟩ u) :=
  ⟨bset (Below.refl _ _) hn u, fun k t' vs' ht hk => hk.other (fun e => by
    subst e
    have := hb.symm.trans hk
    simp at this
    rcases ht with h | h
    · exact h1 (this.2.trans h)
    · exact h2 (this.2.trans h)) i u⟩

theorem withinL_take {d : Nat} {ts : List Ty} {k : Nat} {u : Ty} (h : ts[k]? = some u) : withinL d (ts.take (k + 1)) = withinL d (ts.take k) ++ u.within d := by
  rw [List.take_add_one, h, withinL_append]; simp [withinL]
theorem withinL_prefix (d : Nat) (ts : List Ty) (k : Nat) : withinL d (ts.take k) <+: withinL d ts := by
  conv => rhs; rw [← List.take_append_drop k ts, withinL_append]
  exact List.prefix_append _ _

set_option maxRecDepth 100000 in
set_option maxHeartbeats 2000000 in
theorem walk_in (w0 : World) (n0 l N : Nat) (J Jx : List (Item w0 n0) → World → Prop) (hJ : ∀ pre W o, J pre W → J pre (W.alloc o))
    (hY : ∀ m pre x W, J pre W → pre.length < N → YieldAt Fence.wide m Try.prog l (encI x) W fun e W' => (e = .returned (.bool true) ∧ J (pre ++ [x]) W' ∧ Kp n0 W W') ∨ (e = .returned (.bool false) ∧ Jx (pre ++ [x]) W'))
    (t : Ty) : ∀ (n d : Nat) (sl : Value) (pre : List (Item w0 n0)) (W : World), Holds w0 (fun b => b < n0) t.args sl → t.size ≤ 1000000 → d + t.depth ≤ 1000000 → n0 ≤ W.heap.size → Below n0 w0 W → J pre W → pre.length + t.size ≤ N →
    CallsIn Fence.wide n Try.prog 102 #[tv sl t.base, .int .i64 (d : Int), .func (.yield l) #[] #[]] W fun e W' =>
      (e = .returned (.bool true) ∧ (∃ ys, keys ys = t.within d ∧ J (pre ++ ys) W') ∧ Kp n0 W W') ∨ (e = .returned (.bool false) ∧ ∃ q, keys q <+: t.within d ∧ Jx (pre ++ q) W') := by
  induction t using Ty.ind with
  | h t ih =>
  intro n d sl pre W hh hsz hdp hn0 hW0 hJ0 hN
  have HH := hh
  obtain ⟨ts, hts⟩ : ∃ ts, t.args = ts := ⟨_, rfl⟩
  have hsz2 := t.size_eq
  have hdp2 := t.depth_eq
  have hwi := t.within_eq d
  rw [hts] at hh ih hsz2 hdp2 hwi
  have HWI : Hid _ := hwi
  clear hwi
  obtain ⟨a, cap, rfl, hcap, hat⟩ := hh.shape
  have HA : Hid _ := hat
  clear hat hh
  have hln := sizeL_length ts
  obtain ⟨B, hB⟩ : ∃ B, W.heap.size = B := ⟨_, rfl⟩
  have hdd : ∀ k : Nat, (Fence.wide.depth.isSome = true → 1 ≤ k) := fun k h => by cases h
  have hf51 : Fence.wide.fn 102 := trivial
  obtain ⟨W1, hW1⟩ : ∃ W1, W.alloc (.cells #[.slice a ts.length cap, .int .i64 t.base] 32) = W1 := ⟨_, rfl⟩
  have b0 : Blk W1 B 32 #[.slice a ts.length cap, .int .i64 t.base] := by rw [← hW1]; exact Blk.new' W B 32 _ hB
  have hJ1 : J pre W1 := by rw [← hW1]; exact hJ _ _ _ hJ0
  have k1 : Kp n0 W W1 := by rw [← hW1]; exact Kp.alloc hn0 _
  obtain ⟨fn, tmps, assign, body, hy, hR⟩ := hY (n - 1) pre ⟨d, .slice a ts.length cap, t, by rw [hts] at HH; rw [hts]; exact HH, hsz⟩ W1 hJ1 (by omega)
  dsimp only [encI] at hy
  have c0 := b0.cell 0
  have c1 := b0.cell 1
  refine callsIn_of_wp Try.func102 rfl trivial ?_ rfl
  simp only [Try.ntmps102, List.size_toArray, List.length_cons, List.length_nil, Nat.reduceAdd, Nat.reduceSub, Array.replicate_succ, Array.replicate_zero, List.push_toArray, List.append_toArray, List.nil_append, List.cons_append]
  gi_wp2
  refine ⟨hdd _, ?_⟩
  refine hR.mono ?_
  clear hR hy
  rintro e W2 (⟨rfl, hJ2, k2⟩ | ⟨rfl, hJx2⟩)
  · have b2 := k2.blk b0
    have c2 := b2.cell 0
    have kw := k1.trans k2
    clear b0 c0 c1 k1 k2 hJ1 hJ0 hW1 b2
    gi_wp2
    gi_loopw [17] (fun i wr => ∃ (k : Nat) (ys : List (Item w0 n0)), k ≤ ts.length ∧ i = .int .i64 k ∧ Hid (keys ys = (d, t) :: withinL (d + 1) (ts.take k)) ∧ J (pre ++ ys) wr ∧ Kp n0 W wr)
      (fun i _ => ts.length - (intOf i).toNat)
    case atStart => exact ⟨0, [⟨d, .slice a ts.length cap, t, by rw [hts] at HH; rw [hts]; exact HH, hsz⟩], Nat.zero_le _, rfl, by show _ = _; simp [keys, Item.key, withinL], hJ2, kw⟩
    case round =>
      clear hJ2 kw c2
      obtain ⟨k, ys, hk, rfl, HK, hJk, kw⟩ := hrel
      have hyl : ys.length = 1 + sizeL (ts.take k) := by
        have := congrArg List.length HK.out
        rw [keys_length, List.length_cons, withinL_length _ _ (fun t _ => t.within_length)] at this
        omega
      by_cases hlt : k < ts.length
      · obtain ⟨u, hu⟩ : ∃ u, ts[k]? = some u := ⟨_, List.getElem?_eq_getElem hlt⟩
        obtain ⟨g, o, s, rfl, hg, _, a0, a1, hs⟩ := HA.out k u hu
        have hwr : Below n0 w0 wr := hW0.trans kw.1
        have q0 := (cat hwr hg).trans a0
        have q1 := (cat hwr hg).trans a1
        have hm := List.mem_of_getElem? hu
        have hus := size_mem hm
        have hud := depth_mem hm
        have y1 : (0 : Int) ≤ (k : Int) := by omega
        have y2 : (k : Int) < (ts.length : Int) := by omega
        have hle : sizeL (ts.take k) + u.size ≤ sizeL ts := by rw [← sizeL_take hu]; exact sizeL_take_le ts (k + 1)
        have HK2 : Hid (keys ys ++ u.within (d + 1) = (d, t) :: withinL (d + 1) (ts.take (k + 1))) := by show _ = _; rw [HK.out, withinL_take hu]; rfl
        have HPX : Hid (keys ys ++ u.within (d + 1) <+: t.within d) := by
          show _ <+: _
          rw [HK2.out, HWI.out]
          exact List.prefix_cons_inj _ |>.2 (withinL_prefix _ _ _)
        have hn3 : n0 ≤ wr.heap.size := Nat.le_trans hn0 kw.1.size
        have hcall := ih u hm (n - 1) (d + 1) s (pre ++ ys) (wr.alloc (.cells #[s, .int .i64 u.base] 32)) hs (by omega) (by omega) (by simp; omega) (hwr.alloc hn3 _) (hJ _ _ _ hJk) (by simp; omega)
        rw [show ((d + 1 : Nat) : Int) = (d : Int) + 1 by omega] at hcall
        have k3 : Kp n0 W (wr.alloc (.cells #[s, .int .i64 u.base] 32)) := kw.trans (Kp.alloc hn3 _)
        obtain ⟨sa, sc, rfl, _⟩ := hs.shape
        clear a0 a1 hu HK ih
        gi_wp2_with ((try refine ⟨hdd _, ?_⟩); gi_at_call 102; refine hcall.mono ?_; clear hcall; rintro e W3 (⟨rfl, ⟨zs, hz, hJ3⟩, k4⟩ | ⟨rfl, q, hq, hJx3⟩))
        · go_roundw
          case rel => exact ⟨k + 1, ys ++ zs, by omega, by go_num, by show _ = _; rw [keys_append, hz]; exact HK2.out, by rw [← List.append_assoc]; exact hJ3, k3.trans k4⟩
          case measure => simp [intOf]; omega
        · go_ret
          refine .inr ⟨rfl, ys ++ q, ?_, by rw [← List.append_assoc]; exact hJx3⟩
          rw [keys_append]
          exact List.IsPrefix.trans ((List.prefix_append_right_inj _).2 hq) HPX.out
      · obtain rfl : k = ts.length := by omega
        gi_wp2
        go_ret
        exact .inl ⟨rfl, ⟨ys, by rw [HK.out, HWI.out, List.take_length], hJk⟩, kw⟩
  · gi_wp2
    go_ret
    refine .inr ⟨rfl, _, ?_, hJx2⟩
    rw [HWI.out]
    simp [keys, Item.key]

end Go.Proofs.Ytckagmagjogmnaa
