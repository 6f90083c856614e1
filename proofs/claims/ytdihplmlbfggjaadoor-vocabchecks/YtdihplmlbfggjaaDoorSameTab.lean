/-
  The contract of the document's Same, of two tables that are the same.
-/
import Derived.Test.YtdihplmlbfggjaaDoorCopies
import Derived.Test.YtdihplmlbfggjaaDoorTyWork
import Derived.WalkSmall
namespace Go.Proofs.YtdihplmlbfggjaaDoor
open Go Go.RowKit Go.Sort

set_option maxRecDepth 100000 in
set_option maxHeartbeats 3200000 in
theorem SameTab_calls (bs : List ByteArray) (cs : List Cn) (ok ok' : Nat → Prop) (va vb va' vb' : Value) (w : World) (hS : HoldsS w ok bs va) (hC : HoldsC w ok cs vb) (hS' : HoldsS w ok' bs va') (hC' : HoldsC w ok' cs vb') (fc : ∀ c ∈ cs, c.ty.size ≤ 900000) (hlen : bs.length + cs.length ≤ 1000000) :
    Calls Tryd.prog 13 #[tab va vb, tab va' vb'] w fun e w' => e = .returned (.bool true) ∧ Below w.heap.size w w' := by
  obtain ⟨N, hN⟩ : ∃ N, w.heap.size = N := ⟨_, rfl⟩
  have h1 : HoldsS w (fun b => b < N) bs va := hS.mono fun b hb _ => by omega
  have h2 : HoldsC w (fun b => b < N) cs vb := hC.mono fun b hb _ => by omega
  have h3 : HoldsS w (fun b => b < N) bs va' := hS'.mono fun b hb _ => by omega
  have h4 : HoldsC w (fun b => b < N) cs vb' := hC'.mono fun b hb _ => by omega
  obtain ⟨a, cap, rfl, hcap, _, hat⟩ := h1
  obtain ⟨c, cac, rfl, hcac, _, hct⟩ := h2
  obtain ⟨a', cap', rfl, hcap', _, hat'⟩ := h3
  obtain ⟨c', cac', rfl, hcac', _, hct'⟩ := h4
  rw [hN]
  have HA : Hid _ := hat
  have HC : Hid _ := hct
  have HA' : Hid _ := hat'
  have HC' : Hid _ := hct'
  obtain ⟨nb, hnb⟩ : ∃ nb, bs.length = nb := ⟨_, rfl⟩
  obtain ⟨nc, hnc⟩ : ∃ nc, cs.length = nc := ⟨_, rfl⟩
  have HNB : Hid (bs.length = nb) := hnb
  have HNC : Hid (cs.length = nc) := hnc
  rw [hnb] at hcap hcap' hlen ⊢
  rw [hnc] at hcac hcac' hlen ⊢
  clear hat hct hS hC hat' hct' hS' hC' hnb hnc
  have z0 : ((nb : Int) != (nb : Int)) = false := by simp
  have z00 : ((nc : Int) != (nc : Int)) = false := by simp
  go_enter Tryd.func13, Tryd.ntmps13
  go_wp2_with fail
  generalize hw0 : (w.alloc (.cells #[.slice a nb cap, .slice c nc cac] 25)).alloc (.cells #[.slice a' nb cap', .slice c' nc cac'] 25) = w0
  have b0 : Blk w0 N 25 #[.slice a nb cap, .slice c nc cac] := by rw [← hw0]; exact (Blk.new' w N 25 _ hN).alloc _
  have b1 : Blk w0 (N + 1) 25 #[.slice a' nb cap', .slice c' nc cac'] := by rw [← hw0]; exact Blk.new' _ (N + 1) 25 _ (by simp [hN])
  have bl0 : Below N w w0 := by rw [← hw0]; exact ((Below.refl N w).alloc (by omega) _).alloc (by simp; omega) _
  clear hw0
  have HN : Hid (w.heap.size = N) := hN
  clear hN
  go_loopw [5] (fun i wr => ∃ k : Nat, k ≤ nb ∧ i = .int .i64 k ∧ Blk wr N 25 #[.slice a nb cap, .slice c nc cac] ∧ Blk wr (N + 1) 25 #[.slice a' nb cap', .slice c' nc cac'] ∧ Below N w wr) (fun i _ => nb - (intOf i).toNat)
  case atStart => exact ⟨0, Nat.zero_le _, rfl, b0, b1, bl0⟩
  case round =>
    clear b0 b1 bl0
    obtain ⟨k, hk, rfl, hb0, hb1, hbl⟩ := hrel
    have r0 := hb0.cell 0
    have r1 := hb1.cell 0
    by_cases hlt : k < nb
    · obtain ⟨s, hs⟩ : ∃ s, bs[k]? = some s := ⟨_, List.getElem?_eq_getElem (by rw [HNB.out]; exact hlt)⟩
      obtain ⟨g, o, rfl, hg, q0⟩ := HA.out k s hs
      obtain ⟨g', o', rfl, hg', p0⟩ := HA'.out k s hs
      have q1 := (cat hbl hg).trans q0
      have p1 := (cat hbl hg').trans p0
      have y1 : (0 : Int) ≤ (k : Int) := by omega
      have y2 : (k : Int) < (nb : Int) := by omega
      have z1 : decide ((k : Int) < (nb : Int)) = true := by simp; omega
      have z2 : (s.toList == s.toList) = true := by simp
      have z3 : (s.toList != s.toList) = false := by simp
      clear q0 p0 hs
      go_wp2_with fail
      go_quiet (fail)
      go_wp2
      go_roundw
      case rel => exact ⟨k + 1, by omega, by go_num, hb0, hb1, below_drewN hbl _⟩
      case measure => simp [intOf]; omega
    · obtain rfl : k = nb := by omega
      have z1 : decide ((k : Int) < (k : Int)) = false := by simp
      go_wp2_with fail
      clear r0 r1
      go_loopw [6] (fun i wr => ∃ j : Nat, j ≤ nc ∧ i = .int .i64 j ∧ Blk wr N 25 #[.slice a k cap, .slice c nc cac] ∧ Blk wr (N + 1) 25 #[.slice a' k cap', .slice c' nc cac'] ∧ Below N w wr) (fun i _ => nc - (intOf i).toNat)
      case atStart => exact ⟨0, Nat.zero_le _, rfl, hb0, hb1, hbl⟩
      case round =>
        clear hb0 hb1 hbl
        obtain ⟨j, hj, rfl, hb0, hb1, hbl⟩ := hrel
        have r0 := hb0.cell 1
        have r1 := hb1.cell 1
        by_cases hlt : j < nc
        · obtain ⟨x, hx⟩ : ∃ x, cs[j]? = some x := ⟨_, List.getElem?_eq_getElem (by rw [HNC.out]; exact hlt)⟩
          obtain ⟨g, o, s, rfl, hg, q0, q1, q2, hs⟩ := HC.out j x hx
          obtain ⟨g', o', s', rfl, hg', p0, p1, p2, hs'⟩ := HC'.out j x hx
          have u0 := fun d os => cell_regrown ((cat hbl hg).trans q0) d os
          have u1 := fun d os => cell_regrown ((cat hbl hg).trans q1) d os
          have u2 := fun d os => cell_regrown ((cat hbl hg).trans q2) d os
          have v0 := fun d os => cell_regrown ((cat hbl hg').trans p0) d os
          have v1 := fun d os => cell_regrown ((cat hbl hg').trans p1) d os
          have v2 := fun d os => cell_regrown ((cat hbl hg').trans p2) d os
          have m0 := fun d os => cell_regrown r0 d os
          have m1 := fun d os => cell_regrown r1 d os
          have y1 : (0 : Int) ≤ (j : Int) := by omega
          have y2 : (j : Int) < (nc : Int) := by omega
          have z1 : decide ((j : Int) < (nc : Int)) = true := by simp; omega
          have z2 : (x.name.toList == x.name.toList) = true := by simp
          have z3 : (x.name.toList != x.name.toList) = false := by simp
          have hxs := fc x (List.mem_of_getElem? hx)
          have hs2 : Holds wr (fun b => b < N) x.ty.args s := hs.bel (by rw [HN.out]; exact hbl)
          have hs2' : Holds wr (fun b => b < N) x.ty.args s' := hs'.bel (by rw [HN.out]; exact hbl)
          have CC : Hid (∀ d os, Calls Tryd.prog 34 #[tv s x.ty.base, tv s' x.ty.base] (grow (redrawn wr d) os) fun e w'' => e = .returned (.bool true) ∧ ∃ p : Regrown, w'' = grow (redrawn wr p.d) p.os) := fun d os =>
            Calls.regrown_of (by
              have := Same_calls x.ty x.ty _ _ s s' _ (hs2.bel (below_regrown wr d os)) (hs2'.bel (below_regrown wr d os)) (by omega)
              rw [x.ty.same_self] at this
              exact this)
          clear q0 q1 q2 p0 p1 p2 hx hs hs'
          go_wp2_with fail
          refine wp_region_quiet_below (by kernel_rfl) (by kernel_rfl) ?_
          repeat (go_big_quiet_step ((go_at_call 34; exact CC.out _ _)))
          refine wpQuiet_nil ?_
          intro w1 hw'
          obtain ⟨p, hw''⟩ := hw'
          have hb1' : Below wr.heap.size wr w1 := by rw [hw'']; exact below_regrown _ _ _
          clear hw'' p u0 u1 u2 v0 v1 v2 m0 m1
          have hB1 : Below N w w1 := hbl.trans (hb1'.mono (by have := hbl.size; have := HN.out; omega))
          have k0 := hb0.below hb1' hb0.lt
          have k1 := hb1.below hb1' hb1.lt
          go_wp2
          go_roundw
          case rel => exact ⟨j + 1, by omega, by go_num, k0, k1, hB1⟩
          case measure => simp [intOf]; omega
        · obtain rfl : j = nc := by omega
          have z1 : decide ((j : Int) < (j : Int)) = false := by simp
          go_wp2
          go_ret
          exact ⟨rfl, hbl⟩

end Go.Proofs.YtdihplmlbfggjaaDoor
