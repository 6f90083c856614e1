/-
  RightW2: several texts in one file.
-/
import Derived.Test.YtckagmagjogmnaaHdTy
import Derived.Test.YtckagmagjogmnaaKnownR
import Derived.Test.YtckagmagjogmnaaHeadC
import Derived.Test.YtckagmagjogmnaaRight
import Derived.Lib.QuietBelow
import Derived.Test.YtckagmagjogmnaaWOpen
import Derived.Test.YtckagmagjogmnaaWld
/-
  A world that came in: its number of bases, and two lists of types.
-/
namespace Go.Proofs.Ytckagmagjogmnaa
open Go Go.ChangeShapes Go.WideShapes Go.ChangeAt Go.RowKit Go.Joins

theorem cells53 : Try.prog.cellsOf 47 = 3 := by kernel_rfl

end Go.Proofs.Ytckagmagjogmnaa

/-
  The contracts of the law's Small and of the document's RightWorld.
-/
namespace Go.Proofs.Ytckagmagjogmnaa
open Go Go.RowKit Go.Sort

end Go.Proofs.Ytckagmagjogmnaa

/-
  The contracts of RightWorld: the document's, and the program's.
-/
namespace Go.Proofs.Ytckagmagjogmnaa
open Go Go.RowKit Go.Sort

end Go.Proofs.Ytckagmagjogmnaa

/-
  The contract of term.RightWorld.
-/
namespace Go.Proofs.Ytckagmagjogmnaa
open Go Go.RowKit Go.Sort

set_option maxRecDepth 100000 in
set_option maxHeartbeats 1600000 in
theorem wrong_calls (u : Ty) (bs : Int) (P : Nat) (s : Value) (w : World) (h : w.cell? ⟨P, 0, none⟩ = some (.int .i64 bs)) (hs : Holds w okT u.args s) (hz : u.size ≤ 60) :
    Calls Try.prog 63 #[tv s u.base, .pointer (some ⟨P, 0, none⟩)] w fun e w' => e = .returned (.bool (!rightB bs u)) ∧ Below w.heap.size w w' := by
  obtain ⟨a, cap, rfl, _⟩ := hs.shape
  obtain ⟨N, hN⟩ : ∃ N, w.heap.size = N := ⟨_, rfl⟩
  rw [hN]
  have hPN : P < N := by rw [← hN]; exact lt_of_cell h
  obtain ⟨n, hn⟩ : ∃ n, u.args.length = n := ⟨_, rfl⟩
  rw [hn] at hs ⊢
  obtain ⟨W0, hW0⟩ : ∃ W0, w.alloc (.cells #[.slice a n cap, .int .i64 u.base] 32) = W0 := ⟨_, rfl⟩
  have b0 : Blk W0 N 32 #[.slice a n cap, .int .i64 u.base] := by rw [← hW0]; exact Blk.new' w N 32 _ hN
  have bl0 : Below N w W0 := by rw [← hW0]; exact (Below.refl N w).alloc (by omega) _
  have HW : Hid _ := hW0
  have e0 := b0.cell 0
  have e1 := b0.cell 1
  have q0 := (cat bl0 hPN).trans h
  have hcall := kRight_calls bs u okT _ W0 (hs.bel (hN ▸ bl0)) (by omega)
  have hl0 : N < W0.heap.size := b0.lt
  obtain ⟨r, hr⟩ : ∃ r, rightB bs u = r := ⟨_, rfl⟩
  rw [hr] at hcall ⊢
  clear hW0 h hs hr hn
  go_enter Try.func63, Try.ntmps63
  go_upto_region 1 with fail
  rw [HW.out]
  clear HW
  go_wp2_with fail
  refine hcall.mono ?_
  clear hcall
  rintro e w1 ⟨rfl, hb1⟩
  have hB1 : Below N w w1 := bl0.trans (hb1.mono (by omega))
  go_wp2
  go_ret
  exact ⟨rfl, hB1⟩

/-- Where the first wrong one stands. -/
def FirstAt (bs : Int) (ts : List Ty) (v : Int) : Prop := decide (v ≥ 0) = !(ts.all (rightB bs))

set_option maxRecDepth 100000 in
set_option maxHeartbeats 1600000 in
theorem indexFunc_calls (ts : List Ty) (bs : Int) (P : Nat) (sl : Value) (w : World) (h : w.cell? ⟨P, 0, none⟩ = some (.int .i64 bs)) (hs : Holds w okT ts sl) (hz : ∀ t ∈ ts, t.size ≤ 60) (hl : ts.length ≤ 20) :
    Calls Try.prog 88 #[sl, .func (.func 63) #[] #[.pointer (some ⟨P, 0, none⟩)]] w fun e w' => ∃ v : Int, e = .returned (.int .i64 v) ∧ FirstAt bs ts v ∧ Below w.heap.size w w' := by
  obtain ⟨a, cap, rfl, _, hat⟩ := hs.shape
  have HA : Hid _ := hat
  obtain ⟨N, hN⟩ : ∃ N, w.heap.size = N := ⟨_, rfl⟩
  rw [hN]
  have hPN : P < N := by rw [← hN]; exact lt_of_cell h
  have HP : Hid _ := h
  clear hat h hs
  go_enter Try.func88, Try.ntmps88
  go_wp2
  go_loopw [8] (fun i wr => ∃ k : Nat, k ≤ ts.length ∧ i = .int .i64 k ∧ Hid (AllUpY (rightB bs) ts k) ∧ Below N w wr) (fun i _ => ts.length - (intOf i).toNat)
  case atStart => exact ⟨0, Nat.zero_le _, rfl, fun _ _ h => by omega, Below.refl _ _⟩
  case round =>
    obtain ⟨k, hk, rfl, HF, hbl⟩ := hrel
    by_cases hlt : k < ts.length
    · obtain ⟨u, hu⟩ : ∃ u, ts[k]? = some u := ⟨_, List.getElem?_eq_getElem hlt⟩
      obtain ⟨g, o, s, rfl, _, hg, a0, a1', hs⟩ := HA.out k u hu
      rw [hN] at hg
      have q0 := (cat hbl hg).trans a0
      have q1 := (cat hbl hg).trans a1'
      have y1 : (0 : Int) ≤ (k : Int) := by omega
      have y2 : (k : Int) < (ts.length : Int) := by omega
      have hcall := wrong_calls u bs P s wr ((cat hbl hPN).trans HP.out) (hs.bel (hN ▸ hbl)) (hz u (List.mem_of_getElem? hu))
      have HU : Hid (ts[k]? = some u) := hu
      obtain ⟨fb, hfb⟩ : ∃ fb, rightB bs u = fb := ⟨_, rfl⟩
      have HFB : Hid _ := hfb
      rw [hfb] at hcall
      obtain ⟨sa, sc, hse, _⟩ := hs.shape
      generalize u.args.length = un at hse
      subst hse
      clear a0 a1' hu hfb hs
      go_wp2_with fail
      refine hcall.mono ?_
      rintro e w3 ⟨rfl, hb3⟩
      have B3 : Below N w w3 := hbl.trans (hb3.mono (by have := hbl.size; omega))
      cases fb with
      | false =>
        go_wp2
        go_ret
        exact ⟨k, rfl, by unfold FirstAt; rw [all_no HU.out HFB.out, decide_eq_true (by omega)]; rfl, B3⟩
      | true =>
        go_wp2
        go_roundw
        case rel => exact ⟨k + 1, by omega, by go_num, HF.out.step HU.out HFB.out, B3⟩
        case measure => simp [intOf]; omega
    · obtain rfl : k = ts.length := by omega
      go_wp2
      go_ret
      exact ⟨-1, rfl, by unfold FirstAt; rw [HF.out.all]; rfl, hbl⟩

set_option maxRecDepth 100000 in
set_option maxHeartbeats 1600000 in
theorem containsFunc_calls (ts : List Ty) (bs : Int) (P : Nat) (sl : Value) (w : World) (h : w.cell? ⟨P, 0, none⟩ = some (.int .i64 bs)) (hs : Holds w okT ts sl) (hz : ∀ t ∈ ts, t.size ≤ 60) (hl : ts.length ≤ 20) :
    Calls Try.prog 65 #[sl, .func (.func 63) #[] #[.pointer (some ⟨P, 0, none⟩)]] w fun e w' => e = .returned (.bool !(ts.all (rightB bs))) ∧ Below w.heap.size w w' := by
  have hcall := indexFunc_calls ts bs P sl w h hs hz hl
  obtain ⟨a, cap, rfl, _⟩ := hs.shape
  obtain ⟨r, hr⟩ : ∃ r, ts.all (rightB bs) = r := ⟨_, rfl⟩
  have HR : Hid _ := hr
  rw [hr]
  clear hr h hs hz
  go_enter Try.func65, Try.ntmps65
  go_wp2_with fail
  refine hcall.mono ?_
  rintro e w1 ⟨v, rfl, hv, hb1⟩
  unfold FirstAt at hv
  rw [HR.out] at hv
  have hv' : decide (0 ≤ v) = !r := hv
  cases r <;> simp only [Bool.not_true, Bool.not_false] at hv hv'
  all_goals
    go_wp2
    go_ret
    exact ⟨rfl, hb1⟩

set_option maxRecDepth 100000 in
set_option maxHeartbeats 1600000 in
theorem RightWorld_calls (cs ms : List Ty) (bs : Int) (cv mv : Value) (w : World) (hc : Holds w okT cs cv) (hm : Holds w okT ms mv) (lc : cs.length ≤ 20) (lm : ms.length ≤ 20) (sc : ∀ t ∈ cs, t.size ≤ 60) (sm : ∀ t ∈ ms, t.size ≤ 60) :
    Calls Try.prog 38 #[wov bs cv mv] w fun e w' => e = .returned (.bool (cs.all (rightB bs) && ms.all (rightB bs))) ∧ Below w.heap.size w w' := by
  obtain ⟨c1, c2, rfl, _⟩ := hc.shape
  obtain ⟨m1, m2, rfl, _⟩ := hm.shape
  obtain ⟨N, hN⟩ : ∃ N, w.heap.size = N := ⟨_, rfl⟩
  rw [hN]
  obtain ⟨W0, hW0⟩ : ∃ W0, w.alloc (.cells #[.int .i64 bs, .slice c1 cs.length c2, .slice m1 ms.length m2] 57) = W0 := ⟨_, rfl⟩
  have b0 : Blk W0 N 57 #[.int .i64 bs, .slice c1 cs.length c2, .slice m1 ms.length m2] := by rw [← hW0]; exact Blk.new' w N 57 _ hN
  have bl0 : Below N w W0 := by rw [← hW0]; exact (Below.refl N w).alloc (by omega) _
  have HW : Hid _ := hW0
  have e1 := b0.cell 1
  have e2 := b0.cell 2
  have hl0 : N < W0.heap.size := b0.lt
  have k1 := containsFunc_calls cs bs N _ W0 (b0.cell 0) (hc.bel (hN ▸ bl0)) sc lc
  have k2 := fun cur (h : Below W0.heap.size W0 cur) => containsFunc_calls ms bs N _ cur ((cat h hl0).trans (b0.cell 0)) ((hm.bel (hN ▸ bl0)).bel h) sm lm
  have z1 : decide ((cs.length : Int) + (ms.length : Int) > 1000) = false := by simp; omega
  have z1' : decide (1000 < (cs.length : Int) + (ms.length : Int)) = false := by simp; omega
  obtain ⟨r1, h1⟩ : ∃ r, cs.all (rightB bs) = r := ⟨_, rfl⟩
  obtain ⟨r2, h2⟩ : ∃ r, ms.all (rightB bs) = r := ⟨_, rfl⟩
  rw [h1] at k1 ⊢
  rw [h2]
  simp only [h2] at k2
  clear hW0 hc hm sc sm h1 h2
  go_enter Try.func38, Try.ntmps38
  go_upto_region 1 with fail
  rw [HW.out]
  clear HW
  go_wp2_with fail
  refine k1.mono ?_
  clear k1
  rintro e w1 ⟨rfl, hb1⟩
  have hB1 : Below N w w1 := bl0.trans (hb1.mono (by omega))
  have k3 := k2 w1 hb1
  have f0 := b0.below hb1 b0.lt
  have e3 := f0.cell 2
  have hl1 : N < w1.heap.size := f0.lt
  clear k2 e1 e2
  cases r1 with
  | false =>
    go_wp2
    go_ret
    exact ⟨rfl, hB1⟩
  | true =>
    go_wp2_with fail
    refine k3.mono ?_
    rintro e w2 ⟨rfl, hb2⟩
    have hB2 : Below N w w2 := hB1.trans (hb2.mono (by omega))
    cases r2
    all_goals
      go_wp2
      go_ret
      exact ⟨rfl, hB2⟩

end Go.Proofs.Ytckagmagjogmnaa

