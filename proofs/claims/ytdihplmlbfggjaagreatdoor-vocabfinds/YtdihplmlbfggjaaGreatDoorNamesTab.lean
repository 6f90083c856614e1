/-
  The contracts of the document's Names, and of (*Index).Table.
-/
import Derived.Test.YtdihplmlbfggjaaGreatDoorKnowns
import Derived.Test.YtdihplmlbfggjaaGreatDoorCopies
namespace Go.Proofs.YtdihplmlbfggjaaGreatDoor
open Go Go.RowKit Go.Maps

theorem cell_one_new2 (w : World) (x : Value) (t : TypeId) : ∀ j u, [x][j]? = some u → (w.alloc (.cells #[x] t)).cell? ((⟨w.heap.size, 0, none⟩ : Addr).add j) = some u := by
  intro j u h
  have hb := Blk.new w t #[x]
  have e : ((⟨w.heap.size, 0, none⟩ : Addr).add j) = ⟨w.heap.size, j, none⟩ := by simp [Addr.add]; omega
  rw [e, hb.cell j]
  simpa using h
theorem strs_one (l : List ByteArray) : ∀ u ∈ strs l, u.oneCell' = true := fun u hu => by
  obtain ⟨s, _, rfl⟩ := List.mem_map.1 hu
  rfl

set_option maxRecDepth 100000 in
set_option maxHeartbeats 1600000 in
theorem Names_calls (bs : List ByteArray) (cs : List Cn) (ok : Nat → Prop) (va vb : Value) (w : World) (hS : HoldsS w ok bs va) (hC : HoldsC w ok cs vb) (hlen : bs.length + cs.length ≤ 1000000) :
    Calls Tryz.prog 25 #[tab va vb] w fun e w' => ∃ v, e = .returned v ∧ HoldsS w' (fun b => w.heap.size ≤ b) (names bs cs) v ∧ Below w.heap.size w w' := by
  obtain ⟨i9, hi9, hz90, hz91, hz92⟩ := info_parts info9
  obtain ⟨N, hN⟩ : ∃ N, w.heap.size = N := ⟨_, rfl⟩
  have hS' : HoldsS w (fun b => b < N) bs va := hS.mono fun b hb _ => by omega
  have hC' : HoldsC w (fun b => b < N) cs vb := hC.mono fun b hb _ => by omega
  obtain ⟨a, cap, rfl, hcap, hnil, hat⟩ := hS'
  obtain ⟨c, cap', rfl, hcap', hnil', hct⟩ := hC'
  rw [hN]
  have HA : Hid _ := hat
  have HC : Hid _ := hct
  obtain ⟨nb, hnb⟩ : ∃ nb, bs.length = nb := ⟨_, rfl⟩
  obtain ⟨nc, hnc⟩ : ∃ nc, cs.length = nc := ⟨_, rfl⟩
  have HNB : Hid (bs.length = nb) := hnb
  have HNC : Hid (cs.length = nc) := hnc
  rw [hnb] at hcap hlen ⊢
  rw [hnc] at hcap' hlen ⊢
  clear hat hct hS hC hnb hnc hnil'
  obtain ⟨M, hM⟩ : ∃ M, N + 1 = M := ⟨_, rfl⟩
  obtain ⟨w0, hw0⟩ : ∃ w0, w.alloc (.cells #[.slice a nb cap, .slice c nc cap'] 25) = w0 := ⟨_, rfl⟩
  have b0 : Blk w0 N 25 #[.slice a nb cap, .slice c nc cap'] := by rw [← hw0]; exact Blk.new' w N 25 _ hN
  have bl0 : Below N w w0 := by rw [← hw0]; exact (Below.refl N w).alloc (by omega) _
  have hMw : M ≤ w0.heap.size := by have := b0.lt; omega
  have hstr : (strs bs).length = nb := by rw [strs_length, HNB.out]
  have HQ : Hid (∀ ad, a = some ad → ∀ j u, (strs bs)[j]? = some u → w0.cell? (ad.add j) = some u) := fun ad had j u hj => by
    unfold strs at hj
    rw [List.getElem?_map] at hj
    obtain ⟨s, hs, rfl⟩ := Option.map_eq_some_iff.1 hj
    obtain ⟨g, o, e1, e2, e3⟩ := HA.out j s hs
    rw [had] at e1
    cases e1
    have : (⟨g, o, none⟩ : Addr).add j = ⟨g, o + j, none⟩ := by simp [Addr.add]
    rw [this]
    exact (cat bl0 e2).trans e3
  have r0 := b0.cell 0
  have r1 := b0.cell 1
  have HX : Hid (strs bs = strs (bs ++ (cs.take 0).map Cn.name)) := by show _ = _; simp
  cases a with
  | none =>
    have h0 := hnil rfl
    have hbs : bs = [] := List.eq_nil_of_length_eq_zero (by rw [HNB.out]; omega)
    obtain rfl : cap = 0 := h0
    obtain rfl : nb = 0 := by omega
    have b1 := b0
    have bl1 := bl0
    have hr1 : w0.ownsRow M 9 1 (.slice none 0 0) 0 (strs bs) := by rw [hbs]; exact World.ownsRow_nil _ _ _ _
    clear HQ hbs
    go_enter Tryz.func25, Tryz.ntmps25
    go_wp2_with (at_builtin; refine wpList_append_own_none rfl _ _ 22 rfl M 9 i9 1 Tryz.underlying22 hi9 _ 0 [] rfl (World.ownsRow_nil _ _ _ _) rfl ?_)
    clear b0 bl0 r0 r1 hw0
    go_wp2_with fail
    go_loopw [3, 4] (fun v i wr => ∃ k : Nat, k ≤ nc ∧ i = .int .i64 k ∧ Blk wr N 25 #[.slice none 0 0, .slice c nc cap'] ∧ wr.ownsRow M 9 1 v (0 + k) (strs (bs ++ (cs.take k).map Cn.name)) ∧ Below N w wr) (fun _ i _ => nc - (intOf i).toNat)
    case atStart => exact ⟨0, Nat.zero_le _, rfl, b1, by rw [← HX.out]; exact hr1, bl1⟩
    case round =>
      clear b1 hr1 bl1
      obtain ⟨k, hk, rfl, hb0, hrow, hbl⟩ := hrel
      have t1 := hb0.cell 1
      have hMr : M ≤ wr.heap.size := by have := hb0.lt; omega
      by_cases hlt : k < nc
      · obtain ⟨x, hx⟩ : ∃ x, cs[k]? = some x := ⟨_, List.getElem?_eq_getElem (by rw [HNC.out]; exact hlt)⟩
        obtain ⟨g, o, s, rfl, hg, q0, _⟩ := HC.out k x hx
        have q1 := (cat hbl hg).trans q0
        have y1 : (0 : Int) ≤ (k : Int) := by omega
        have y2 : (k : Int) < (nc : Int) := by omega
        have z1 : decide ((k : Int) < (nc : Int)) = true := by simp; omega
        have HT : Hid (strs (bs ++ (cs.take (k + 1)).map Cn.name) = strs (bs ++ (cs.take k).map Cn.name) ++ [.string x.name]) := by
          show _ = _
          rw [List.take_add_one, hx]
          simp [strs]
        clear q0 hx HX
        generalize strs (bs ++ (cs.take k).map Cn.name) = xs at *
        have hm1 : u3.ownBlock ≠ some N := fun e => by have := (hrow.lt N e).1; omega
        go_wp2_with (at_builtin; refine wpList_append_own _ rfl _ _ 22 rfl M 9 i9 (.string ⟨#[]⟩) 1 16 Tryz.underlying22 hi9 hz90 hz91 hz92 rfl (by decide) _ _ _ rfl (hrow.alloc _) ⟨wr.heap.size, 0, none⟩ 1 1 [.string x.name] rfl rfl (cell_one_new2 _ _ _) (by simp [Value.oneCell']) (by unfold maxLen; omega) (by omega) (by simp; omega) ?_; intro v2 w2 hown2 hgrow2 _)
        have e0 := (hb0.alloc (.cells #[.string x.name] 9)).kept hgrow2 (fun e => hm1 e.symm)
        have hB2 : Below N w w2 := (hbl.alloc (by omega) _).grown hgrow2 (by simp; omega) (fun j hj => by have := (hrow.lt j hj).1; omega)
        clear hgrow2
        go_wp2
        go_roundw
        case rel => exact ⟨k + 1, by omega, by go_num, e0, by rw [HT.out]; exact hown2, hB2⟩
        case measure => simp [intOf]; omega
      · obtain rfl : k = nc := by omega
        have z1 : decide ((k : Int) < (k : Int)) = false := by simp
        have hh : HoldsS wr (fun b => M ≤ b) (names bs cs) u3 := holdsS_row (by
          rw [names, List.length_append, List.length_map, HNB.out, HNC.out]
          rw [List.take_of_length_le (by rw [HNC.out]; exact Nat.le_refl _)] at hrow
          exact hrow)
        have hh2 := hh.mono (ok' := fun b => N ≤ b) (fun b _ hb => by omega)
        go_wp2
        go_ret
        exact ⟨_, rfl, hh2, hbl⟩
  | some ad =>
    have hq := HQ.out ad rfl
    go_enter Tryz.func25, Tryz.ntmps25
    go_wp2_with (at_builtin; refine wpList_append_own _ rfl _ _ 22 rfl M 9 i9 (.string ⟨#[]⟩) 1 16 Tryz.underlying22 hi9 hz90 hz91 hz92 rfl (by decide) _ 0 [] rfl (World.ownsRow_nil _ _ _ _) ad nb cap (strs bs) rfl (by rw [hstr]; omega) hq (strs_one bs) (by unfold maxLen; omega) (by omega) hMw ?_; intro v1 w1 hr1 hgrow1 _)
    have b1 := b0.kept hgrow1 (fun e => by cases e)
    have bl1 : Below N w w1 := bl0.grown hgrow1 (by omega) (fun j hj => by cases hj)
    rw [Nat.zero_add, List.nil_append] at hr1
    clear b0 bl0 r0 r1 hw0 hgrow1 hq HQ
    go_wp2_with fail
    go_loopw [3, 4] (fun v i wr => ∃ k : Nat, k ≤ nc ∧ i = .int .i64 k ∧ Blk wr N 25 #[.slice (some ad) nb cap, .slice c nc cap'] ∧ wr.ownsRow M 9 1 v (nb + k) (strs (bs ++ (cs.take k).map Cn.name)) ∧ Below N w wr) (fun _ i _ => nc - (intOf i).toNat)
    case atStart => exact ⟨0, Nat.zero_le _, rfl, b1, by rw [← HX.out]; exact hr1, bl1⟩
    case round =>
      clear b1 hr1 bl1
      obtain ⟨k, hk, rfl, hb0, hrow, hbl⟩ := hrel
      have t1 := hb0.cell 1
      have hMr : M ≤ wr.heap.size := by have := hb0.lt; omega
      by_cases hlt : k < nc
      · obtain ⟨x, hx⟩ : ∃ x, cs[k]? = some x := ⟨_, List.getElem?_eq_getElem (by rw [HNC.out]; exact hlt)⟩
        obtain ⟨g, o, s, rfl, hg, q0, _⟩ := HC.out k x hx
        have q1 := (cat hbl hg).trans q0
        have y1 : (0 : Int) ≤ (k : Int) := by omega
        have y2 : (k : Int) < (nc : Int) := by omega
        have z1 : decide ((k : Int) < (nc : Int)) = true := by simp; omega
        have HT : Hid (strs (bs ++ (cs.take (k + 1)).map Cn.name) = strs (bs ++ (cs.take k).map Cn.name) ++ [.string x.name]) := by
          show _ = _
          rw [List.take_add_one, hx]
          simp [strs]
        clear q0 hx HX
        generalize strs (bs ++ (cs.take k).map Cn.name) = xs at *
        have hm1 : u3.ownBlock ≠ some N := fun e => by have := (hrow.lt N e).1; omega
        go_wp2_with (at_builtin; refine wpList_append_own _ rfl _ _ 22 rfl M 9 i9 (.string ⟨#[]⟩) 1 16 Tryz.underlying22 hi9 hz90 hz91 hz92 rfl (by decide) _ _ _ rfl (hrow.alloc _) ⟨wr.heap.size, 0, none⟩ 1 1 [.string x.name] rfl rfl (cell_one_new2 _ _ _) (by simp [Value.oneCell']) (by unfold maxLen; omega) (by omega) (by simp; omega) ?_; intro v2 w2 hown2 hgrow2 _)
        have e0 := (hb0.alloc (.cells #[.string x.name] 9)).kept hgrow2 (fun e => hm1 e.symm)
        have hB2 : Below N w w2 := (hbl.alloc (by omega) _).grown hgrow2 (by simp; omega) (fun j hj => by have := (hrow.lt j hj).1; omega)
        clear hgrow2
        go_wp2
        go_roundw
        case rel => exact ⟨k + 1, by omega, by go_num, e0, by rw [HT.out]; exact hown2, hB2⟩
        case measure => simp [intOf]; omega
      · obtain rfl : k = nc := by omega
        have z1 : decide ((k : Int) < (k : Int)) = false := by simp
        have hh : HoldsS wr (fun b => M ≤ b) (names bs cs) u3 := holdsS_row (by
          rw [names, List.length_append, List.length_map, HNB.out, HNC.out]
          rw [List.take_of_length_le (by rw [HNC.out]; exact Nat.le_refl _)] at hrow
          exact hrow)
        have hh2 := hh.mono (ok' := fun b => N ≤ b) (fun b _ hb => by omega)
        go_wp2
        go_ret
        exact ⟨_, rfl, hh2, hbl⟩

end Go.Proofs.YtdihplmlbfggjaaGreatDoor
