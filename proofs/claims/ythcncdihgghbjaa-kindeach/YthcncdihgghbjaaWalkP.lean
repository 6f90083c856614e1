/-
  The contract of kind.walk and kind.within once more, where the types may lie anywhere among blocks that the rounds leave as they are.
-/
import Derived.Test.YthcncdihgghbjaaRight
namespace Go.Proofs.Ythcncdihgghbjaa
open Go Go.RowKit Go.Shelf

attribute [local go_sem] Oper.semAt_some

/-- The blocks that P names lie as they lay. -/
def KeepP (P : Nat → Prop) (W W' : World) : Prop := W.heap.size ≤ W'.heap.size ∧ ∀ b, P b → b < W.heap.size → W'.heap[b]? = W.heap[b]?
theorem KeepP.refl (P : Nat → Prop) (W : World) : KeepP P W W := ⟨Nat.le_refl _, fun _ _ _ => rfl⟩
theorem KeepP.trans {P : Nat → Prop} {A B C : World} (h : KeepP P A B) (k : KeepP P B C) : KeepP P A C := ⟨Nat.le_trans h.1 k.1, fun b hb hl => (k.2 b hb (Nat.lt_of_lt_of_le hl h.1)).trans (h.2 b hb hl)⟩
theorem KeepP.of_below {P : Nat → Prop} {A B : World} (h : Below A.heap.size A B) : KeepP P A B := ⟨h.size, fun b _ hl => h.block b hl⟩
theorem KeepP.alloc {P : Nat → Prop} (W : World) (o : Obj) : KeepP P W (W.alloc o) := KeepP.of_below ((Below.refl _ _).alloc (Nat.le_refl _) o)
theorem KeepP.cell {P : Nat → Prop} {A B : World} (h : KeepP P A B) {g i : Nat} (hg : P g) (hl : g < A.heap.size) : B.cell? ⟨g, i, none⟩ = A.cell? ⟨g, i, none⟩ := World.cell?_of_block (w := A) (h.2 g hg hl)
theorem Holds.keepP {P : Nat → Prop} {A B : World} {ts : List Ty} {v : Value} (h : Holds A P ts v) (k : KeepP P A B) : Holds B P ts v := h.keep fun b hl hb => ⟨k.2 b hb hl, hb⟩

structure ItemP (w0 : World) (P : Nat → Prop) where
  d : Nat
  s : Value
  t : Ty
  h : Holds w0 P t.args s
  z : t.size ≤ 1000000
def ItemP.key {w0 : World} {P : Nat → Prop} (x : ItemP w0 P) : Nat × Ty := (x.d, x.t)
abbrev encP {w0 : World} {P : Nat → Prop} (x : ItemP w0 P) : Array Value := #[.int .i64 (x.d : Int), tv x.s x.t.base]
def keysP {w0 : World} {P : Nat → Prop} (l : List (ItemP w0 P)) : List (Nat × Ty) := l.map ItemP.key
theorem keysP_append {w0 : World} {P : Nat → Prop} (a b : List (ItemP w0 P)) : keysP (a ++ b) = keysP a ++ keysP b := List.map_append
theorem keysP_length {w0 : World} {P : Nat → Prop} (a : List (ItemP w0 P)) : (keysP a).length = a.length := List.length_map _

/-- What a round that goes on keeps. -/
def KpP (P : Nat → Prop) (W W' : World) : Prop := KeepP P W W' ∧ ∀ j t vs, (t = 29 ∨ t = 76) → Blk W j t vs → Blk W' j t vs
theorem KpP.trans {P : Nat → Prop} {A B C : World} (h : KpP P A B) (k : KpP P B C) : KpP P A C := ⟨h.1.trans k.1, fun j t vs ht hb => k.2 j t vs ht (h.2 j t vs ht hb)⟩
theorem KpP.of_below {P : Nat → Prop} {A B : World} (h : Below A.heap.size A B) : KpP P A B := ⟨KeepP.of_below h, fun _ _ _ _ hb => hb.below h hb.lt⟩
theorem KpP.alloc {P : Nat → Prop} (W : World) (o : Obj) : KpP P W (W.alloc o) := KpP.of_below ((Below.refl _ _).alloc (Nat.le_refl _) o)
theorem KpP.put {P : Nat → Prop} {w : World} (hP : ∀ b, P b → b < w.heap.size) (W : World) (l : Nat) (o o' : Obj) (hl : w.heap.size ≤ l) (h : W.heap[l]? = some o) (hc : o.isCells = false) (_ : o.isWalk = false) : KpP P W (W.putObj l o') :=
  ⟨⟨by simp, fun b hb _ => World.putObj_heap_other (by have := hP b hb; omega)⟩, fun _ _ _ _ hb => hb.put o' h hc⟩
theorem KpP.blk {P : Nat → Prop} {W W' : World} (h : KpP P W W') {j : Nat} {vs : Array Value} (hb : Blk W j 29 vs) : Blk W' j 29 vs := h.2 j 29 vs (.inl rfl) hb

set_option maxRecDepth 100000 in
set_option maxHeartbeats 2000000 in
theorem walkP_in (w0 : World) (P : Nat → Prop) (l N : Nat) (J Jx : List (ItemP w0 P) → World → Prop) (hJ : ∀ pre W o, J pre W → J pre (W.alloc o))
    (hY : ∀ m pre x W, J pre W → pre.length < N → YieldAt Fence.wide m Try.prog l (encP x) W fun e W' => (e = .returned (.bool true) ∧ J (pre ++ [x]) W' ∧ KpP P W W') ∨ (e = .returned (.bool false) ∧ Jx (pre ++ [x]) W'))
    (t : Ty) : ∀ (n d : Nat) (sl : Value) (pre : List (ItemP w0 P)) (W : World), Holds w0 P t.args sl → t.size ≤ 1000000 → d + t.depth ≤ 1000000 → KeepP P w0 W → J pre W → pre.length + t.size ≤ N →
    CallsIn Fence.wide n Try.prog 51 #[tv sl t.base, .int .i64 (d : Int), .func (.yield l) #[] #[]] W fun e W' =>
      (e = .returned (.bool true) ∧ (∃ ys, keysP ys = t.within d ∧ J (pre ++ ys) W') ∧ KpP P W W') ∨ (e = .returned (.bool false) ∧ ∃ q, keysP q <+: t.within d ∧ Jx (pre ++ q) W') := by
  induction t using Ty.ind with
  | h t ih =>
  intro n d sl pre W hh hsz hdp hW0 hJ0 hN
  have HH := hh
  obtain ⟨ts, hts⟩ : ∃ ts, t.args = ts := ⟨_, rfl⟩
  have hsz2 := t.size_eq
  have hdp2 := t.depth_eq
  have hwi := t.within_eq d
  rw [hts] at hh ih hsz2 hdp2 hwi
  have HWI : Hid _ := hwi
  clear hwi
  obtain ⟨a, cap, rfl, hcap, hat⟩ := hh.shape
  have HA : Hid _ := hat
  clear hat hh
  have hln := sizeL_length ts
  obtain ⟨B, hB⟩ : ∃ B, W.heap.size = B := ⟨_, rfl⟩
  have hdd : ∀ k : Nat, (Fence.wide.depth.isSome = true → 1 ≤ k) := fun k h => by cases h
  have hf51 : Fence.wide.fn 51 := trivial
  obtain ⟨W1, hW1⟩ : ∃ W1, W.alloc (.cells #[.slice a ts.length cap, .int .i64 t.base] 29) = W1 := ⟨_, rfl⟩
  have b0 : Blk W1 B 29 #[.slice a ts.length cap, .int .i64 t.base] := by rw [← hW1]; exact Blk.new' W B 29 _ hB
  have hJ1 : J pre W1 := by rw [← hW1]; exact hJ _ _ _ hJ0
  have k1 : KpP P W W1 := by rw [← hW1]; exact KpP.alloc _ _
  obtain ⟨fn, tmps, assign, body, hy, hR⟩ := hY (n - 1) pre ⟨d, .slice a ts.length cap, t, by rw [hts] at HH; rw [hts]; exact HH, hsz⟩ W1 hJ1 (by omega)
  dsimp only [encP] at hy
  have c0 := b0.cell 0
  have c1 := b0.cell 1
  refine callsIn_of_wp Try.func51 rfl trivial ?_ rfl
  simp only [Try.ntmps51, List.size_toArray, List.length_cons, List.length_nil, Nat.reduceAdd, Nat.reduceSub, Array.replicate_succ, Array.replicate_zero, List.push_toArray, List.append_toArray, List.nil_append, List.cons_append]
  gi_wp2
  refine ⟨hdd _, ?_⟩
  refine hR.mono ?_
  clear hR hy
  rintro e W2 (⟨rfl, hJ2, k2⟩ | ⟨rfl, hJx2⟩)
  · have b2 := k2.blk b0
    have c2 := b2.cell 0
    have kw := k1.trans k2
    clear b0 c0 c1 k1 k2 hJ1 hJ0 hW1 b2
    gi_wp2
    gi_loopw [17] (fun i wr => ∃ (k : Nat) (ys : List (ItemP w0 P)), k ≤ ts.length ∧ i = .int .i64 k ∧ Hid (keysP ys = (d, t) :: withinL (d + 1) (ts.take k)) ∧ J (pre ++ ys) wr ∧ KpP P W wr)
      (fun i _ => ts.length - (intOf i).toNat)
    case atStart => exact ⟨0, [⟨d, .slice a ts.length cap, t, by rw [hts] at HH; rw [hts]; exact HH, hsz⟩], Nat.zero_le _, rfl, by show _ = _; simp [keysP, ItemP.key, withinL], hJ2, kw⟩
    case round =>
      clear hJ2 kw c2
      obtain ⟨k, ys, hk, rfl, HK, hJk, kw⟩ := hrel
      have hyl : ys.length = 1 + sizeL (ts.take k) := by
        have := congrArg List.length HK.out
        rw [keysP_length, List.length_cons, withinL_length _ _ (fun t _ => t.within_length)] at this
        omega
      by_cases hlt : k < ts.length
      · obtain ⟨u, hu⟩ : ∃ u, ts[k]? = some u := ⟨_, List.getElem?_eq_getElem hlt⟩
        obtain ⟨g, o, s, rfl, hg, hgl, a0, a1, hs⟩ := HA.out k u hu
        have hwr : KeepP P w0 wr := hW0.trans kw.1
        have q0 := (hwr.cell hg hgl).trans a0
        have q1 := (hwr.cell hg hgl).trans a1
        have hm := List.mem_of_getElem? hu
        have hus := size_mem hm
        have hud := depth_mem hm
        have y1 : (0 : Int) ≤ (k : Int) := by omega
        have y2 : (k : Int) < (ts.length : Int) := by omega
        have hle : sizeL (ts.take k) + u.size ≤ sizeL ts := by rw [← sizeL_take hu]; exact sizeL_take_le ts (k + 1)
        have HK2 : Hid (keysP ys ++ u.within (d + 1) = (d, t) :: withinL (d + 1) (ts.take (k + 1))) := by show _ = _; rw [HK.out, withinL_take hu]; rfl
        have HPX : Hid (keysP ys ++ u.within (d + 1) <+: t.within d) := by
          show _ <+: _
          rw [HK2.out, HWI.out]
          exact List.prefix_cons_inj _ |>.2 (withinL_prefix _ _ _)
        have hcall := ih u hm (n - 1) (d + 1) s (pre ++ ys) (wr.alloc (.cells #[s, .int .i64 u.base] 29)) hs (by omega) (by omega) (hwr.trans (KeepP.alloc _ _)) (hJ _ _ _ hJk) (by simp; omega)
        rw [show ((d + 1 : Nat) : Int) = (d : Int) + 1 by omega] at hcall
        have k3 : KpP P W (wr.alloc (.cells #[s, .int .i64 u.base] 29)) := kw.trans (KpP.alloc _ _)
        obtain ⟨sa, sc, rfl, _⟩ := hs.shape
        clear a0 a1 hu HK ih
        gi_wp2_with ((try refine ⟨hdd _, ?_⟩); gi_at_call 51; refine hcall.mono ?_; clear hcall; rintro e W3 (⟨rfl, ⟨zs, hz, hJ3⟩, k4⟩ | ⟨rfl, q, hq, hJx3⟩))
        · go_roundw
          case rel => exact ⟨k + 1, ys ++ zs, by omega, by go_num, by show _ = _; rw [keysP_append, hz]; exact HK2.out, by rw [← List.append_assoc]; exact hJ3, k3.trans k4⟩
          case measure => simp [intOf]; omega
        · go_ret
          refine .inr ⟨rfl, ys ++ q, ?_, by rw [← List.append_assoc]; exact hJx3⟩
          rw [keysP_append]
          exact List.IsPrefix.trans ((List.prefix_append_right_inj _).2 hq) HPX.out
      · obtain rfl : k = ts.length := by omega
        gi_wp2
        go_ret
        exact .inl ⟨rfl, ⟨ys, by rw [HK.out, HWI.out, List.take_length], hJk⟩, kw⟩
  · gi_wp2
    go_ret
    refine .inr ⟨rfl, _, ?_, hJx2⟩
    rw [HWI.out]
    simp [keysP, ItemP.key]

set_option maxRecDepth 100000 in
set_option maxHeartbeats 2000000 in
theorem withinP_stops (w0 : World) (P : Nat → Prop) (n Bt : Nat) (t : Ty) (sl : Value) (w : World) (hBt : Blk w Bt 29 #[sl, .int .i64 t.base]) (hh : Holds w0 P t.args sl) (hsz : t.size ≤ 900000) (hb : KeepP P w0 w) :
    SeqStopsK Fence.wide n Try.prog 50 #[.pointer (some ⟨Bt, 0, none⟩)] (encP (w0 := w0) (P := P)) (KpP P) (fun ys => keysP ys = t.within 1) (fun pre => keysP pre <+: t.within 1) t.size w := fun l J Jx W hW hJ _ hY h0 => by
  have b0 := hBt.below hW hBt.lt
  have hd := t.depth_le_size
  have hp := walkP_in w0 P l t.size J Jx (fun pre W' o hj => hJ pre W' _ none hj (World.grownBy_alloc W' o none) (fun r e => by cases e)) (fun m pre x W hj hl => yieldAny rfl m (hY pre x W hj hl)) t (n - 1) 1 sl [] W hh (by omega) (by omega) (hb.trans (KeepP.of_below hW)) h0 (by simp)
  rw [show ((1 : Nat) : Int) = 1 from rfl] at hp
  have c0 := b0.cell 0
  have c1 := b0.cell 1
  have hdd : ∀ k : Nat, (Fence.wide.depth.isSome = true → 1 ≤ k) := fun k h => by cases h
  have hf51 : Fence.wide.fn 51 := trivial
  refine callsIn_of_wp Try.func50 rfl trivial ?_ rfl
  simp only [Try.ntmps50, List.size_toArray, List.length_cons, List.length_nil, Nat.reduceAdd, Nat.reduceSub, Array.replicate_succ, Array.replicate_zero, List.push_toArray, List.append_toArray, List.nil_append, List.cons_append]
  gi_wp2_with ((try refine ⟨hdd _, ?_⟩); gi_at_call 51; refine hp.mono ?_; clear hp; rintro e W1 (⟨rfl, ⟨ys, hys, hJ1⟩, _⟩ | ⟨rfl, q, hq, hx⟩))
  · go_end0
    exact ⟨⟨_, rfl⟩, .inl ⟨_, hys, by simpa using hJ1⟩⟩
  · go_end0
    exact ⟨⟨_, rfl⟩, .inr ⟨q, hq, by simpa using hx⟩⟩

end Go.Proofs.Ythcncdihgghbjaa
