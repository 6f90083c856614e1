/-
  The contract of the document's Check.
-/
import Derived.Test.YtdihplmlbfggjaaGreatDoorNamesTab
import Derived.Test.YtdihplmlbfggjaaGreatDoorRefChk
import Derived.Test.YtdihplmlbfggjaaGreatDoorLxWords
import Derived.WalkSmall
namespace Go.Proofs.YtdihplmlbfggjaaGreatDoor
open Go Go.RowKit Go.Maps Go.Sort

theorem name_fit {bs : List ByteArray} {cs : List Cn} (fs : FitS bs) (fc : FitC cs) {i : Nat} {s : ByteArray} (h : (names bs cs)[i]? = some s) : s.size ≤ 281474976710656 := by
  have hm := List.mem_of_getElem? h
  rcases List.mem_append.1 hm with h1 | h1
  · exact fs s h1
  · obtain ⟨c, hc, rfl⟩ := List.mem_map.1 h1
    exact (fc c hc).1

set_option maxRecDepth 100000 in
set_option maxHeartbeats 3200000 in
theorem ChkTab_calls (bs : List ByteArray) (cs : List Cn) (ok : Nat → Prop) (va vb : Value) (w : World) (hS : HoldsS w ok bs va) (hC : HoldsC w ok cs vb) (fs : FitS bs) (fc : FitC cs) (hlen : bs.length + cs.length ≤ 1000000) :
    Calls Tryz.prog 8 #[tab va vb] w fun e w' => e = .returned (.int .i64 (chk bs cs : Int)) ∧ Below w.heap.size w w' := by
  obtain ⟨N, hN⟩ : ∃ N, w.heap.size = N := ⟨_, rfl⟩
  have hS' : HoldsS w (fun b => b < N) bs va := hS.mono fun b hb _ => by omega
  have hC' : HoldsC w (fun b => b < N) cs vb := hC.mono fun b hb _ => by omega
  obtain ⟨W, hW⟩ : ∃ W, w.alloc (.cells #[va, vb] 25) = W := ⟨_, rfl⟩
  have b0 : Blk W N 25 #[va, vb] := by rw [← hW]; exact Blk.new' w N 25 _ hN
  have B0 : Below N w W := by rw [← hW]; exact (Below.refl N w).alloc (by omega) _
  have hNm := Names_calls bs cs _ va vb W (by rw [← hW]; exact hS'.alloc _) (by rw [← hW]; exact hC'.alloc _) hlen
  obtain ⟨a, cap, rfl, hcap, _, hat⟩ := hS'
  obtain ⟨c, cap', rfl, hcap', _, hct⟩ := hC'
  rw [hN]
  have HC : Hid _ := hct
  have HCN := chkF_zero bs cs
  have HNE : Hid _ := chkF_end bs cs
  have HNL : Hid _ := names_length bs cs
  obtain ⟨nb, hnb⟩ : ∃ nb, bs.length = nb := ⟨_, rfl⟩
  obtain ⟨nc, hnc⟩ : ∃ nc, cs.length = nc := ⟨_, rfl⟩
  have HNB : Hid (bs.length = nb) := hnb
  have HNC : Hid (cs.length = nc) := hnc
  have HN : Hid (w.heap.size = N) := hN
  have hck : 1000 < nb + nc → chk bs cs = 2 := fun h => by unfold chk; rw [hnb, hnc, if_pos h]
  rw [hnb] at hcap hlen HCN HNE HNL b0 hNm hW ⊢
  rw [hnc] at hcap' hlen HCN HNE HNL b0 hNm hW ⊢
  have HNM : Hid _ := hNm
  have r0 := b0.cell 0
  have r1 := b0.cell 1
  have l0 := b0.lt
  have z17 : wrap64 (1000 - (nb : Int)) = 1000 - (nb : Int) := by unfold wrap64; omega
  clear hat hct hS hC hnb hnc hNm
  by_cases h1 : 1000 < nb
  · have z1 : decide ((1000 : Int) < (nb : Int)) = true := by simp; omega
    have HR : Hid (chk bs cs = 2) := hck (by omega)
    clear hck HCN
    generalize chk bs cs = code at *
    go_enter Tryz.func8, Tryz.ntmps8
    go_wp2
    go_ret
    exact ⟨ret_int (by rw [HR.out]; rfl), B0⟩
  · have z1 : decide ((1000 : Int) < (nb : Int)) = false := by simp; omega
    by_cases h2 : 1000 < nb + nc
    · have z2 : decide (1000 - (nb : Int) < (nc : Int)) = true := by simp; omega
      have HR : Hid (chk bs cs = 2) := hck h2
      clear hck HCN
      generalize chk bs cs = code at *
      go_enter Tryz.func8, Tryz.ntmps8
      go_wp2
      go_ret
      exact ⟨ret_int (by rw [HR.out]; rfl), B0⟩
    · have z2 : decide (1000 - (nb : Int) < (nc : Int)) = false := by simp; omega
      have HCK : Hid (chk bs cs = chkF bs cs 0) := HCN h2
      clear hck HCN
      generalize chk bs cs = code at *
      go_enter Tryz.func8, Tryz.ntmps8
      go_wp2_with fail
      refine Calls.mono HNM.out ?_
      clear hW hN
      rintro e w1 ⟨v1, rfl, h1', hb1⟩
      have b1 := b0.below hb1 b0.lt
      have B1 : Below N w w1 := B0.trans (hb1.mono (by omega))
      obtain ⟨la, lcap, rfl, hlc, _, hla⟩ := h1'
      have HLA : Hid (∀ i s, (names bs cs)[i]? = some s → ∃ g o, la = some ⟨g, o, none⟩ ∧ g < w1.heap.size ∧ w1.cell? ⟨g, o + i, none⟩ = some (.string s)) := fun i s hs => by
        obtain ⟨g, o, e1, _, e3⟩ := hla i s hs
        exact ⟨g, o, e1, lt_of_cell e3, e3⟩
      rw [HNL.out] at hlc ⊢
      obtain ⟨n, hn⟩ : ∃ n, nb + nc = n := ⟨_, rfl⟩
      rw [hn] at hlc HNE HNL ⊢
      obtain ⟨L1, hL1⟩ : ∃ L1, w1.heap.size = L1 := ⟨_, rfl⟩
      rw [hL1] at HLA
      have HL1 : Hid (w1.heap.size = L1) := hL1
      clear hla hb1 b0 B0 r0 r1 HNM hL1
      go_wp2_with fail
      go_loopw [4, 5] (fun i _k wr => ∃ k : Nat, k ≤ n ∧ i = .int .i64 k ∧ Hid (code = chkF bs cs k) ∧ Blk wr N 25 #[.slice a nb cap, .slice c nc cap'] ∧ Below L1 w1 wr) (fun i _ _ => n - (intOf i).toNat)
      case atStart => exact ⟨0, Nat.zero_le _, rfl, HCK, b1, Below.refl _ _⟩
      case round =>
        clear b1
        obtain ⟨k, hk, rfl, HF, hb0, hbl⟩ := hrel
        by_cases hlt : k < n
        · obtain ⟨s, hs⟩ : ∃ s, (names bs cs)[k]? = some s := ⟨_, List.getElem?_eq_getElem (by rw [HNL.out]; exact hlt)⟩
          obtain ⟨g, o, rfl, hg, q0⟩ := HLA.out k s hs
          have q1 := (cat hbl hg).trans q0
          have y1 : (0 : Int) ≤ (k : Int) := by omega
          have y2 : (k : Int) < (n : Int) := by omega
          have z3 : decide ((k : Int) < (n : Int)) = true := by simp; omega
          have hW := Lx.IsWord_all s (name_fit fs fc hs) wr
          have HS : Hid _ := hs
          obtain ⟨wd, hwd⟩ : ∃ wd, wordB s = wd := ⟨_, rfl⟩
          have HWD : Hid (wordB s = wd) := hwd
          rw [show Lx.justB s 1 = wd from hwd] at hW
          clear hs hwd
          have lwr := hbl.size
          rw [HL1.out] at lwr
          have lB1 := B1.size
          rw [HL1.out, HN.out] at lB1
          go_wp2_with fail
          refine hW.mono ?_
          rintro e w2 ⟨rfl, hb2⟩
          have hbl2 : Below L1 w1 w2 := hbl.trans (hb2.mono lwr)
          have k0 := hb0.below hb2 hb0.lt
          clear hW hb2 q1 hb0 hbl lwr
          cases wd with
          | false =>
            go_wp2
            go_ret
            exact ⟨ret_int (by rw [HF.out, chkF_bad HS.out (by rw [metE_form HWD.out]; omega), metE_form HWD.out]; rfl), B1.trans (hbl2.mono lB1)⟩
          | true =>
            go_wp2_with fail
            go_loopw [5] (fun i wr => ∃ j : Nat, j ≤ k ∧ i = .int .i64 j ∧ Hid (NoneUp (names bs cs) s j) ∧ Blk wr N 25 #[.slice a nb cap, .slice c nc cap'] ∧ Below L1 w1 wr) (fun i _ => k - (intOf i).toNat)
            case atStart => exact ⟨0, Nat.zero_le _, rfl, NoneUp.zero _ _, k0, hbl2⟩
            case round =>
              clear k0 hbl2
              obtain ⟨j, hj, rfl, HNO, k0, hbl2⟩ := hrel
              by_cases hjk : j < k
              · obtain ⟨t, ht⟩ : ∃ t, (names bs cs)[j]? = some t := ⟨_, List.getElem?_eq_getElem (by rw [HNL.out]; omega)⟩
                obtain ⟨g', o', e1, hg', p0⟩ := HLA.out j t ht
                cases e1
                have p1 := (cat hbl2 hg').trans p0
                have q1 := (cat hbl2 hg).trans q0
                have z4 : decide ((j : Int) < (k : Int)) = true := by simp; omega
                have y3 : (0 : Int) ≤ (j : Int) := by omega
                have y4 : (j : Int) < (n : Int) := by omega
                obtain ⟨d, hd⟩ : ∃ d, (t.toList == s.toList) = d := ⟨_, rfl⟩
                have HTS : Hid (t = s ↔ d = true) := by show _ ↔ _; rw [← hd]; exact (Lx.str_eq t s).symm
                have HTJ : Hid _ := ht
                clear ht
                go_wp2_with fail
                go_quiet (fail)
                cases d with
                | true =>
                  go_wp2
                  go_ret
                  have hts : t = s := by first | exact HTS.out.2 rfl | exact HTS.out.2 trivial
                  have hin := in_take (s := s) hjk (by rw [← hts]; exact HTJ.out)
                  exact ⟨ret_int (by rw [HF.out, chkF_bad HS.out (by rw [metE_name HWD.out hin]; omega), metE_name HWD.out hin]; rfl), B1.trans ((below_drewN hbl2 _).mono lB1)⟩
                | false =>
                  have hts : t ≠ s := fun e => by have := HTS.out.1 e; cases this
                  go_wp2
                  go_roundw
                  case rel => exact ⟨j + 1, by omega, by go_num, HNO.out.step HTJ.out hts, k0, below_drewN hbl2 _⟩
                  case measure => simp [intOf]; omega
              · obtain rfl : j = k := by omega
                have z4 : decide ((j : Int) < (j : Int)) = false := by simp
                have HM : Hid (metE ((names bs cs).take j) s = 0) := metE_good HWD.out HNO.out.notin
                have m0 := fun d os => cell_regrown (k0.cell 0) d os
                have m1 := fun d os => cell_regrown (k0.cell 1) d os
                by_cases hjb : j < nb
                · have z5 : decide ((nb : Int) ≤ (j : Int)) = false := by simp; omega
                  have z6 : decide (nb ≤ j) = false := by simp; omega
                  have HF2 : Hid (code = chkF bs cs (j + 1)) := by show _ = _; rw [HF.out]; exact chkF_base (by rw [HNB.out]; exact hjb) HS.out HM.out
                  go_wp2_with fail
                  refine wp_region_quiet_below (by kernel_rfl) (by kernel_rfl) ?_
                  repeat (go_big_quiet_step (fail))
                  refine wpQuiet_nil ?_
                  intro w3 hw'
                  obtain ⟨p, hw''⟩ := hw'
                  have hb3 : Below wr.heap.size wr w3 := by rw [hw'']; exact below_regrown _ _ _
                  clear hw'' p m0 m1
                  have k3 := k0.below hb3 k0.lt
                  have hbl3 : Below L1 w1 w3 := hbl2.trans (hb3.mono (by have := hbl2.size; rw [HL1.out] at this; exact this))
                  go_wp2
                  go_roundw
                  case rel => exact ⟨j + 1, by omega, by go_num, HF2, k3, hbl3⟩
                  case measure => simp [intOf]; omega
                · have z5 : decide ((nb : Int) ≤ (j : Int)) = true := by simp; omega
                  have z6 : decide (nb ≤ j) = true := by simp; omega
                  obtain ⟨x, hx⟩ : ∃ x, cs[j - nb]? = some x := ⟨_, List.getElem?_eq_getElem (by rw [HNC.out]; omega)⟩
                  obtain ⟨gc, oc, sx, rfl, hgc, c0, c1, c2, hsx⟩ := HC.out (j - nb) x hx
                  obtain ⟨m, hm⟩ : ∃ m, j - nb = m := ⟨_, rfl⟩
                  have hjm : wrap64 ((j : Int) - (nb : Int)) = (m : Int) := by unfold wrap64; omega
                  have hjm2 : (j : Int) - (nb : Int) = (m : Int) := by omega
                  have y5 : (0 : Int) ≤ (m : Int) := by omega
                  have y6 : (m : Int) < (nc : Int) := by omega
                  rw [hm] at c0 c1 c2
                  have hw2 : Below N w wr := B1.trans (hbl2.mono lB1)
                  have u1 := fun d os => cell_regrown ((cat hw2 hgc).trans c1) d os
                  have u2 := fun d os => cell_regrown ((cat hw2 hgc).trans c2) d os
                  have hs2 : Holds wr (fun b => b < N) x.ty.args sx := hsx.bel (by rw [HN.out]; exact hw2)
                  have hxs := (fc x (List.mem_of_getElem? hx)).2
                  obtain ⟨r, hr⟩ : ∃ r, rightB nb x.ty = r := ⟨_, rfl⟩
                  have HF2 : Hid (code = if r = true then chkF bs cs (j + 1) else 5) := by
                    show _ = _
                    have hnm : (names bs cs)[j]? = some x.name := by rw [names_const (by rw [HNB.out]; exact hjb), HNB.out, hx]; rfl
                    have : s = x.name := Option.some.inj (HS.out.symm.trans hnm)
                    have hM := HM.out
                    rw [this] at hM
                    rw [HF.out, chkF_const (c := x) (by rw [HNB.out]; exact hjb) (by rw [HNB.out]; exact hx) hM, HNB.out, hr]
                  have CC : Hid (∀ d os, Calls Tryz.prog 27 #[tv sx x.ty.base, .int .i64 (nb : Int)] (grow (redrawn wr d) os) fun e w'' => e = .returned (.bool r) ∧ ∃ p : Regrown, w'' = grow (redrawn wr p.d) p.os) := fun d os =>
                    Calls.regrown_of (by rw [← hr]; exact refRight_calls nb x.ty _ sx _ (hs2.bel (below_regrown wr d os)) (by omega))
                  clear c0 c1 c2 hx hsx hr hm
                  go_wp2_with fail
                  refine wp_region_quiet_below (by kernel_rfl) (by kernel_rfl) ?_
                  repeat (go_big_quiet_step ((go_at_call 27; exact CC.out _ _)))
                  refine wpQuiet_nil ?_
                  intro w3 hw'
                  obtain ⟨p, hw''⟩ := hw'
                  have hb3 : Below wr.heap.size wr w3 := by rw [hw'']; exact below_regrown _ _ _
                  clear hw'' p m0 m1 u1 u2
                  have k3 := k0.below hb3 k0.lt
                  have hbl3 : Below L1 w1 w3 := hbl2.trans (hb3.mono (by have := hbl2.size; rw [HL1.out] at this; exact this))
                  cases r with
                  | false =>
                    go_wp2
                    go_ret
                    exact ⟨ret_int (by rw [HF2.out]; rfl), B1.trans (hbl3.mono lB1)⟩
                  | true =>
                    go_wp2
                    go_roundw
                    case rel => exact ⟨j + 1, by omega, by go_num, by show _ = _; rw [HF2.out]; rfl, k3, hbl3⟩
                    case measure => simp [intOf]; omega
        · obtain rfl : k = n := by omega
          have z3 : decide ((k : Int) < (k : Int)) = false := by simp
          have lB1 := B1.size
          rw [HL1.out, HN.out] at lB1
          go_wp2
          go_ret
          exact ⟨ret_int (by rw [HF.out, HNE.out]; rfl), B1.trans (hbl.mono lB1)⟩

end Go.Proofs.YtdihplmlbfggjaaGreatDoor
