/-
  The contract of term.each of types, by freshType: types told in memory of their own.
-/
import Derived.Test.YtheokboggjnenaaCloneT
import Derived.Test.YtheokboggjnenaaEqK
namespace Go.Proofs.Ytheokboggjnenaa
open Go Go.RowKit

set_option maxRecDepth 100000 in
set_option maxHeartbeats 1600000 in
theorem eachTy_calls (ts : List Ty) (ok : Nat → Prop) (sl : Value) (w : World) (hh : Holds w ok ts sl) (hsz : sizeL ts ≤ 1000000) :
    Calls Try.prog 111 #[sl, .func (.func 74) #[] #[]] w fun e w' => ∃ v, e = .returned v ∧ Holds w' (fun b => w.heap.size ≤ b) ts v ∧ Below w.heap.size w w' := by
  have hln := sizeL_length ts
  have HI : Hid (∀ t ∈ ts, t.size ≤ 1000000) := fun t ht => by have := size_mem ht; omega
  have hcl := CloneTy_calls ts ok sl w hh (by omega)
  obtain ⟨N, hN⟩ : ∃ N, w.heap.size = N := ⟨_, rfl⟩
  rw [hN]
  obtain ⟨la, lc, rfl, _⟩ := hh.shape
  generalize hlt : ts.length = ln at *
  clear hh
  go_enter Try.func111, Try.ntmps111
  go_wp2_with fail
  refine hcl.mono ?_
  rintro e w1 ⟨v1, qs, rfl, hrow, hqs, hkid, hb1⟩
  obtain ⟨va, vc, rfl⟩ := row_shape hrow
  rw [hN] at hrow hb1
  have HQ : Hid (qs.map (·.2) = ts) := hqs
  have hql : qs.length ≤ 1000000 := by have := congrArg List.length hqs; rw [List.length_map] at this; omega
  have HK : Hid _ := hkid
  clear hqs hkid hln hlt hcl hsz
  go_wp2_with fail
  go_loopw [12] (fun i wr => ∃ (k : Nat) (rs : List (Value × Ty)), k ≤ qs.length ∧ i = .int .i64 k ∧ Hid (rs.length = k) ∧ Hid (rs.map (·.2) = (qs.take k).map (·.2)) ∧ wr.ownsRow N 63 2 (.slice va qs.length vc) qs.length (pcells (rs ++ qs.drop k)) ∧ (∀ p ∈ rs, Holds wr (fun b => N ≤ b ∧ (Value.slice va qs.length vc).ownBlock ≠ some b) p.2.args p.1) ∧ Below N w wr)
    (fun i _ => qs.length - (intOf i).toNat)
  case atStart => exact ⟨0, [], Nat.zero_le _, rfl, rfl, rfl, by simpa using hrow, (fun p hp => by cases hp), hb1⟩
  case round =>
    clear hrow hb1
    obtain ⟨k, rs, hk, rfl, HR, HS, hrow, hkid, hbl⟩ := hrel
    have hNw : N ≤ wr.heap.size := by have := hbl.size; omega
    by_cases hlt : k < qs.length
    · obtain ⟨p, hp⟩ : ∃ p, qs[k]? = some p := ⟨_, List.getElem?_eq_getElem hlt⟩
      obtain ⟨g, vc', e1, hNg, hgl⟩ := hrow.form (by omega)
      cases e1
      have hdr : qs.drop k = p :: qs.drop (k + 1) := by
        obtain ⟨hl, he⟩ := List.getElem?_eq_some_iff.1 hp
        rw [List.drop_eq_getElem_cons hl, he]
      rw [hdr] at hrow
      have hc := World.ownsRow.cellAt hrow
      have hg0 : (pcells (rs ++ p :: qs.drop (k + 1)))[k * 2]? = some p.1 ∧ (pcells (rs ++ p :: qs.drop (k + 1)))[k * 2 + 1]? = some (.int .i64 p.2.base) := by
        apply pcells_get
        rw [← HR.out, List.getElem?_append_right (Nat.le_refl _)]
        simp
      have c0 : wr.cell? ⟨g, k * 2, none⟩ = some p.1 := (hc _ (by omega)).trans hg0.1
      have c1 : wr.cell? ⟨g, k * 2 + 1, none⟩ = some (.int .i64 p.2.base) := (hc _ (by omega)).trans hg0.2
      have hpm := List.mem_of_getElem? hp
      have hpH : Holds wr ok p.2.args p.1 := (HK.out p hpm).bel (by rw [hN]; exact hbl)
      have hfr := freshType_calls p.2 ok p.1 (wr.alloc (.cells #[p.1, .int .i64 p.2.base] 63)) (hpH.alloc _) (HI.out p.2 (by rw [← HQ.out]; exact List.mem_map_of_mem hpm))
      obtain ⟨sa, sc, hps, _⟩ := hpH.shape
      have y1 : (0 : Int) ≤ (k : Int) := by omega
      have y2 : (k : Int) < (qs.length : Int) := by omega
      have HS2 : Hid (rs.map (·.2) ++ [p.2] = (qs.take (k + 1)).map (·.2)) := by show _ = _; rw [HS.out, List.take_add_one, hp]; simp
      have hpc := hfr
      have hrow1 := hrow.alloc (.cells #[p.1, .int .i64 p.2.base] 63)
      have hb1 : Below wr.heap.size wr (wr.alloc (.cells #[p.1, .int .i64 p.2.base] 63)) := (Below.refl _ _).alloc (Nat.le_refl _) _
      rw [hps] at c0 hpc hrow1 hb1
      clear hp hdr hg0 hc hfr HS hpH
      have d0 := (cat hb1 hgl).trans c0
      have d1 := (cat hb1 hgl).trans c1
      have hgl1 := Nat.lt_of_lt_of_le hgl hb1.size
      go_wp2_with (go_at_call 74; refine hpc.mono ?_; rintro e w2 ⟨v2, rfl, hv2, hb2⟩; obtain ⟨ta, tc, rfl, _⟩ := hv2.shape; have e0 := (cat hb2 hgl1).trans d0; have e1 := (cat hb2 hgl1).trans d1; have hrow2 := row_below hrow1 hb2; have f0 := row_frozen hrow2 (k * 2); have f1 := row_frozen hrow2 (k * 2 + 1))
      generalize p.2.args.length = un at *
      have hB2 : Below N w w2 := (hbl.alloc hNw _).trans (hb2.mono (by simp; omega))
      have hB3 : Below N w ((w2.setCell ⟨g, k * 2, none⟩ (.slice ta un tc)).setCell ⟨g, k * 2 + 1, none⟩ (.int .i64 p.2.base)) := bset (bset hB2 hNg _) hNg _
      have hrow3 := row_set (row_set hrow2 (k * 2) (.slice ta un tc)) (k * 2 + 1) (.int .i64 p.2.base)
      rw [show (pcells (rs ++ p :: qs.drop (k + 1))).set (k * 2) (.slice ta un tc) = (pcells (rs ++ p :: qs.drop (k + 1))).set (rs.length * 2) (.slice ta un tc) by rw [HR.out]] at hrow3
      have hk2 : Hid (((pcells (rs ++ p :: qs.drop (k + 1))).set (rs.length * 2) (.slice ta un tc)).set (k * 2 + 1) (.int .i64 p.2.base) = pcells ((rs ++ [(.slice ta un tc, p.2)]) ++ qs.drop (k + 1))) := by
        show _ = _
        rw [← HR.out, pcells_set, List.append_assoc]
        rfl
      rw [hk2.out] at hrow3
      have hkid2 : ∀ q ∈ rs ++ [(.slice ta un tc, p.2)], Holds ((w2.setCell ⟨g, k * 2, none⟩ (.slice ta un tc)).setCell ⟨g, k * 2 + 1, none⟩ (.int .i64 p.2.base)) (fun b => N ≤ b ∧ (Value.slice (some ⟨g, 0, none⟩) qs.length vc).ownBlock ≠ some b) q.2.args q.1 := by
        intro q hq
        rcases List.mem_append.1 hq with hq | hq
        · exact holds_set2 (((hkid q hq).alloc _).bel hb2) (fun b _ ho => ⟨fun e => ho.2 (by rw [e]; rfl), ho⟩) _ _ _ _
        · rw [List.mem_singleton.1 hq]
          refine holds_set2 hv2 (fun b _ ho => ?_) _ _ _ _
          have ho' : wr.heap.size + 1 ≤ b := by simpa using ho
          have hbg : b ≠ g := by omega
          exact ⟨hbg, by omega, fun e => hbg (by cases e; rfl)⟩
      clear hrow hrow1 hrow2 hkid hbl hb2 hB2 hv2 hb1 hpc c0 c1 d0 d1 e0 e1 f0 f1 hk2
      generalize (w2.setCell ⟨g, k * 2, none⟩ (.slice ta un tc)).setCell ⟨g, k * 2 + 1, none⟩ (.int .i64 p.2.base) = W3 at *
      go_roundw
      case rel => exact ⟨k + 1, rs ++ [(.slice ta un tc, p.2)], by omega, by go_num, by show _ = _; rw [List.length_append, HR.out]; rfl, by show _ = _; rw [List.map_append]; exact HS2.out, hrow3, hkid2, hB3⟩
      case measure => simp [intOf]; omega
    · obtain rfl : k = qs.length := by omega
      go_wp2
      go_ret
      refine ⟨_, rfl, ?_, hbl⟩
      rw [List.drop_length, List.append_nil] at hrow
      rw [List.take_length, HQ.out] at HS
      rw [← HS.out]
      refine holds_of_row (M := N) (e := 63) (by rw [HR.out]; exact hrow) (fun p hp => (hkid p hp).mono fun b _ h => h.1) (fun b h => h)

end Go.Proofs.Ytheokboggjnenaa
