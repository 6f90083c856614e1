/-
  The contracts of the law's To and Of: a type there and back, in memory of its own.
-/
import Derived.Test.YtckagmagjogmnaaMk
namespace Go.Proofs.Ytckagmagjogmnaa
open Go Go.RowKit

theorem info29 : (Try.prog.info? 32).map (fun i => (i.zero, i.size, i.bytes)) = some (some (.agg #[.slice none 0 0, .int .i64 0]), 2, 32) := by kernel_rfl
theorem info24 : (Try.prog.info? 24).map (fun i => (i.zero, i.size, i.bytes)) = some (some (.agg #[.slice none 0 0, .int .i64 0]), 2, 32) := by kernel_rfl

set_option maxRecDepth 100000 in
set_option maxHeartbeats 3200000 in
theorem To_calls (t : Ty) : ∀ (ok : Nat → Prop) (sl : Value) (w : World), Holds w ok t.args sl → t.size ≤ 1000000 →
    Calls Try.prog 41 #[tv sl t.base] w fun e w' => ∃ v, e = .returned (tv v t.base) ∧ Holds w' (fun b => w.heap.size ≤ b) t.args v ∧ Below w.heap.size w w' := by
  induction t using Ty.ind with
  | h t ih =>
  intro ok sl w hh hsz
  obtain ⟨ts, hts⟩ : ∃ ts, t.args = ts := ⟨_, rfl⟩
  have hsz2 := t.size_eq
  rw [hts] at hh ih hsz2
  obtain ⟨i0, hi, hz0, hz1, hz2⟩ := info_parts info29
  obtain ⟨a, cap, rfl, hcap, hat⟩ := hh.shape
  have HA : Hid _ := hat
  clear hat hh
  have hln := sizeL_length ts
  obtain ⟨N, hN⟩ : ∃ N, w.heap.size = N := ⟨_, rfl⟩
  have HN : Hid (w.heap.size = N) := hN
  rw [hts, hN]
  go_enter Try.func41, Try.ntmps41
  go_wp2_with fail
  generalize hw0 : ((w.alloc (.cells #[.slice a ts.length cap, .int .i64 t.base] 24)).alloc (.cells #[.slice none 0 0, .int .i64 0] 32)).alloc (.cells #[.slice none 0 0, .int .i64 t.base] 32) = w0
  have b0 : Blk w0 N 24 #[.slice a ts.length cap, .int .i64 t.base] := by rw [← hw0]; exact ((Blk.new' w N 24 _ hN).alloc _).alloc _
  have b1 : Blk w0 (N + 1) 32 #[.slice none 0 0, .int .i64 0] := by rw [← hw0]; exact (Blk.new' _ (N + 1) 32 _ (by simp [hN])).alloc _
  have b2 : Blk w0 (N + 1 + 1) 32 #[.slice none 0 0, .int .i64 t.base] := by rw [← hw0]; exact Blk.new' _ (N + 1 + 1) 32 _ (by simp [hN])
  have bl0 : Below N w w0 := by rw [← hw0]; exact (((Below.refl N w).alloc (by omega) _).alloc (by simp; omega) _).alloc (by simp; omega) _
  clear hw0
  obtain ⟨R, hR⟩ : ∃ R, N + 1 + 1 = R := ⟨_, rfl⟩
  obtain ⟨M, hM⟩ : ∃ M, R + 1 = M := ⟨_, rfl⟩
  rw [hR] at b2 ⊢
  clear hN
  go_loopw [4] (fun i wr => ∃ (k : Nat) (vk : Value) (ps : List (Value × Ty)), k ≤ ts.length ∧ i = .int .i64 k ∧ Hid (ps.map (·.2) = ts.take k) ∧ Blk wr N 24 #[.slice a ts.length cap, .int .i64 t.base] ∧ Blk wr (N + 1) 32 #[.slice none 0 0, .int .i64 0] ∧ Blk wr R 32 #[vk, .int .i64 t.base] ∧ Mk wr M 32 vk ps ∧ Below N w wr)
    (fun i _ => ts.length - (intOf i).toNat)
  case atStart => exact ⟨0, _, [], Nat.zero_le _, rfl, rfl, b0, b1, b2, Mk.nil _ _ _, bl0⟩
  case round =>
    clear b0 b1 b2 bl0
    obtain ⟨k, vk, ps, hk, rfl, HP, hb0, hb1, hb2, hmk, hbl⟩ := hrel
    have r0 := hb0.cell 0
    have t0 := hb2.cell 0
    have hRw : R < wr.heap.size := hb2.lt
    have hpl : ps.length = k := by have := congrArg List.length HP.out; simp at this; omega
    by_cases hlt : k < ts.length
    · subst hpl
      obtain ⟨k, hkk⟩ : ∃ k, ps.length = k := ⟨_, rfl⟩
      rw [hkk] at hlt hk HP ⊢
      have HKK : Hid (ps.length = k) := hkk
      clear hkk
      obtain ⟨u, hu⟩ : ∃ u, ts[k]? = some u := ⟨_, List.getElem?_eq_getElem hlt⟩
      obtain ⟨g, o, s, rfl, _, hg, a0, a1, hs⟩ := HA.out k u hu
      rw [HN.out] at hg
      have q0 := (cat hbl hg).trans a0
      have q1 := (cat hbl hg).trans a1
      have hm := List.mem_of_getElem? hu
      have hus := size_mem hm
      have y1 : (0 : Int) ≤ (k : Int) := by omega
      have y2 : (k : Int) < (ts.length : Int) := by omega
      have HP2 : Hid (ps.map (·.2) ++ [u] = ts.take (k + 1)) := by show _ = _; rw [HP.out, List.take_add_one, hu]; rfl
      have hs2 : Holds wr ok u.args s := hs.bel (by rw [HN.out]; exact hbl)
      have hMw : M ≤ wr.heap.size := by omega
      have hnR : vk.ownBlock ≠ some R := fun e => by have := (hmk.lt R e).1; omega
      have hn0 : vk.ownBlock ≠ some N := fun e => by have := (hmk.lt N e).1; omega
      have hn1 : vk.ownBlock ≠ some (N + 1) := fun e => by have := (hmk.lt (N + 1) e).1; omega
      have HL : Hid (∀ b, vk.ownBlock = some b → b < wr.heap.size) := fun b hb => (hmk.lt b hb).2
      clear a0 a1 hu hs HP
      go_wp2_with fail
      go_region_law (first
          | (refine step_append_lies _ rfl _ _ 30 rfl M 32 i0 _ 2 32 Try.underlying30 hi hz0 hz1 hz2 rfl (by decide) _ k (pcells ps) rfl (by have := hmk2.row.alloc (.cells #[.slice sa sn sc, .int .i64 u.base] 32); rwa [HKK.out] at this) ⟨w2.heap.size, 0, none⟩ 1 1 [.slice sa sn sc, .int .i64 u.base] rfl rfl (cell_two_new _ _ _ _) (by simp [Value.oneCell']) (by omega) (by unfold maxLen; omega) (by omega) (by simp; omega) _ rfl ?_; intro g2 cap2 w3 hown3 hgrow3 hat3 hlt3; have hap := appended hgrow3 hb2 hbb hnR; have p0 := hap.cell 0; have pf := fun j => hap.frozen j)
          | (go_simp; go_at_call 41; refine (ih u hm ok s _ hs2.drew (by omega)).mono ?_; rintro e w2 ⟨v2, rfl, hv2, hbb⟩; obtain ⟨sa, sc, rfl, _⟩ := hv2.shape; generalize u.args.length = sn at *; have z0 := (hbb.cell (p := ⟨R, 0, none⟩) hRw).trans t0; have hmk2 := hmk.drew.bel hbb; have hwz : wr.heap.size ≤ w2.heap.size := hbb.size; have z0a := cell_alloc_old hbb hRw t0))
      all_goals
        have hB2 : Below N w w2 := hbl.drew.trans (hbb.mono (by show N ≤ wr.heap.size; omega))
        have hB3 : Below N w w3 := (hB2.alloc (by omega) _).grown hgrow3 (by simp; omega) (fun j hj => by have := (hmk2.lt j hj).1; omega)
        have hmk3 := hmk2.snoc (cap := cap2) hv2 hMw HL.out hgrow3 hat3 (by rw [HKK.out]; exact hown3)
        rw [HKK.out] at hmk3
        have e0 := (appended hgrow3 hb0 hbb hn0).other (B' := R) (by omega) 0 (.slice (some ⟨g2, 0, none⟩) (k + 1) cap2)
        have e1 := (appended hgrow3 hb1 hbb hn1).other (B' := R) (by omega) 0 (.slice (some ⟨g2, 0, none⟩) (k + 1) cap2)
        have e2 := hap.set 0 (.slice (some ⟨g2, 0, none⟩) (k + 1) cap2)
        have hmk4 := hmk3.set (R := R) (by omega) 0 (.slice (some ⟨g2, 0, none⟩) (k + 1) cap2)
        have hB4 : Below N w (w3.setCell ⟨R, 0, none⟩ (.slice (some ⟨g2, 0, none⟩) (k + 1) cap2)) := bset hB3 (by omega) _
        clear hown3 hgrow3 hat3 hlt3 hB2 hB3 hmk2 hmk3 z0a z0 hbb p0 pf hap
        generalize w3.setCell ⟨R, 0, none⟩ (.slice (some ⟨g2, 0, none⟩) (k + 1) cap2) = W4 at *
        go_wp2
        exact ⟨⟨k + 1, .slice (some ⟨g2, 0, none⟩) (k + 1) cap2, ps ++ [(.slice sa sn sc, u)], by omega, by go_num, by show _ = _; rw [List.map_append]; exact HP2.out, e0, e1, e2, hmk4, hB4⟩, by simp [intOf]; omega⟩
    · obtain rfl : k = ts.length := by omega
      have t1 := hb2.cell 1
      have s0 := hb1.cell 0
      have s1 := hb1.cell 1
      have f0 := hb1.frozen 0
      have f1 := hb1.frozen 1
      have hh4 := hmk.holds
      rw [HP.out, List.take_length] at hh4
      obtain ⟨va, vc, rfl, _⟩ := hh4.shape
      have c0 := (hb1.set 0 (.slice va ts.length vc)).set 1 (.int .i64 t.base)
      have hh5 : Holds ((wr.setCell ⟨N + 1, 0, none⟩ (.slice va ts.length vc)).setCell ⟨N + 1, 1, none⟩ (.int .i64 t.base)) (fun b => N ≤ b) ts (.slice va ts.length vc) := by
        have h := ((hmk.set (R := N + 1) (by omega) 0 (.slice va ts.length vc)).set (R := N + 1) (by omega) 1 (.int .i64 t.base)).holds
        rw [HP.out, List.take_length] at h
        exact h.mono fun b _ hb => by omega
      have hB5 : Below N w ((wr.setCell ⟨N + 1, 0, none⟩ (.slice va ts.length vc)).setCell ⟨N + 1, 1, none⟩ (.int .i64 t.base)) := bset (bset hbl (by omega) _) (by omega) _
      go_wp2
      generalize (wr.setCell ⟨N + 1, 0, none⟩ (.slice va ts.length vc)).setCell ⟨N + 1, 1, none⟩ (.int .i64 t.base) = W5 at *
      have d0 : W5.cell? ⟨N + 1, 0, none⟩ = some (.slice va ts.length vc) := c0.cell 0
      have d1 : W5.cell? ⟨N + 1, 1, none⟩ = some (.int .i64 t.base) := c0.cell 1
      exact bodyPost_ret (v := tv (.slice va ts.length vc) t.base) (by simp [results, Try.results41, go_sem, d0, d1]) rfl ⟨_, rfl, hh5, hB5⟩

set_option maxRecDepth 100000 in
set_option maxHeartbeats 3200000 in
theorem Of_calls (t : Ty) : ∀ (ok : Nat → Prop) (sl : Value) (w : World), Holds w ok t.args sl → t.size ≤ 1000000 →
    Calls Try.prog 29 #[tv sl t.base] w fun e w' => ∃ v, e = .returned (tv v t.base) ∧ Holds w' (fun b => w.heap.size ≤ b) t.args v ∧ Below w.heap.size w w' := by
  induction t using Ty.ind with
  | h t ih =>
  intro ok sl w hh hsz
  obtain ⟨ts, hts⟩ : ∃ ts, t.args = ts := ⟨_, rfl⟩
  have hsz2 := t.size_eq
  rw [hts] at hh ih hsz2
  obtain ⟨i0, hi, hz0, hz1, hz2⟩ := info_parts info24
  obtain ⟨a, cap, rfl, hcap, hat⟩ := hh.shape
  have HA : Hid _ := hat
  clear hat hh
  have hln := sizeL_length ts
  obtain ⟨N, hN⟩ : ∃ N, w.heap.size = N := ⟨_, rfl⟩
  have HN : Hid (w.heap.size = N) := hN
  rw [hts, hN]
  go_enter Try.func29, Try.ntmps29
  go_wp2_with fail
  generalize hw0 : ((w.alloc (.cells #[.slice a ts.length cap, .int .i64 t.base] 32)).alloc (.cells #[.slice none 0 0, .int .i64 0] 24)).alloc (.cells #[.slice none 0 0, .int .i64 t.base] 24) = w0
  have b0 : Blk w0 N 32 #[.slice a ts.length cap, .int .i64 t.base] := by rw [← hw0]; exact ((Blk.new' w N 32 _ hN).alloc _).alloc _
  have b1 : Blk w0 (N + 1) 24 #[.slice none 0 0, .int .i64 0] := by rw [← hw0]; exact (Blk.new' _ (N + 1) 24 _ (by simp [hN])).alloc _
  have b2 : Blk w0 (N + 1 + 1) 24 #[.slice none 0 0, .int .i64 t.base] := by rw [← hw0]; exact Blk.new' _ (N + 1 + 1) 24 _ (by simp [hN])
  have bl0 : Below N w w0 := by rw [← hw0]; exact (((Below.refl N w).alloc (by omega) _).alloc (by simp; omega) _).alloc (by simp; omega) _
  clear hw0
  obtain ⟨R, hR⟩ : ∃ R, N + 1 + 1 = R := ⟨_, rfl⟩
  obtain ⟨M, hM⟩ : ∃ M, R + 1 = M := ⟨_, rfl⟩
  rw [hR] at b2 ⊢
  clear hN
  go_loopw [4] (fun i wr => ∃ (k : Nat) (vk : Value) (ps : List (Value × Ty)), k ≤ ts.length ∧ i = .int .i64 k ∧ Hid (ps.map (·.2) = ts.take k) ∧ Blk wr N 32 #[.slice a ts.length cap, .int .i64 t.base] ∧ Blk wr (N + 1) 24 #[.slice none 0 0, .int .i64 0] ∧ Blk wr R 24 #[vk, .int .i64 t.base] ∧ Mk wr M 24 vk ps ∧ Below N w wr)
    (fun i _ => ts.length - (intOf i).toNat)
  case atStart => exact ⟨0, _, [], Nat.zero_le _, rfl, rfl, b0, b1, b2, Mk.nil _ _ _, bl0⟩
  case round =>
    clear b0 b1 b2 bl0
    obtain ⟨k, vk, ps, hk, rfl, HP, hb0, hb1, hb2, hmk, hbl⟩ := hrel
    have r0 := hb0.cell 0
    have t0 := hb2.cell 0
    have hRw : R < wr.heap.size := hb2.lt
    have hpl : ps.length = k := by have := congrArg List.length HP.out; simp at this; omega
    by_cases hlt : k < ts.length
    · subst hpl
      obtain ⟨k, hkk⟩ : ∃ k, ps.length = k := ⟨_, rfl⟩
      rw [hkk] at hlt hk HP ⊢
      have HKK : Hid (ps.length = k) := hkk
      clear hkk
      obtain ⟨u, hu⟩ : ∃ u, ts[k]? = some u := ⟨_, List.getElem?_eq_getElem hlt⟩
      obtain ⟨g, o, s, rfl, _, hg, a0, a1, hs⟩ := HA.out k u hu
      rw [HN.out] at hg
      have q0 := (cat hbl hg).trans a0
      have q1 := (cat hbl hg).trans a1
      have hm := List.mem_of_getElem? hu
      have hus := size_mem hm
      have y1 : (0 : Int) ≤ (k : Int) := by omega
      have y2 : (k : Int) < (ts.length : Int) := by omega
      have HP2 : Hid (ps.map (·.2) ++ [u] = ts.take (k + 1)) := by show _ = _; rw [HP.out, List.take_add_one, hu]; rfl
      have hs2 : Holds wr ok u.args s := hs.bel (by rw [HN.out]; exact hbl)
      have hMw : M ≤ wr.heap.size := by omega
      have hnR : vk.ownBlock ≠ some R := fun e => by have := (hmk.lt R e).1; omega
      have hn0 : vk.ownBlock ≠ some N := fun e => by have := (hmk.lt N e).1; omega
      have hn1 : vk.ownBlock ≠ some (N + 1) := fun e => by have := (hmk.lt (N + 1) e).1; omega
      have HL : Hid (∀ b, vk.ownBlock = some b → b < wr.heap.size) := fun b hb => (hmk.lt b hb).2
      clear a0 a1 hu hs HP
      go_wp2_with fail
      go_region_law (first
          | (refine step_append_lies _ rfl _ _ 22 rfl M 24 i0 _ 2 32 Try.underlying22 hi hz0 hz1 hz2 rfl (by decide) _ k (pcells ps) rfl (by have := hmk2.row.alloc (.cells #[.slice sa sn sc, .int .i64 u.base] 24); rwa [HKK.out] at this) ⟨w2.heap.size, 0, none⟩ 1 1 [.slice sa sn sc, .int .i64 u.base] rfl rfl (cell_two_new _ _ _ _) (by simp [Value.oneCell']) (by omega) (by unfold maxLen; omega) (by omega) (by simp; omega) _ rfl ?_; intro g2 cap2 w3 hown3 hgrow3 hat3 hlt3; have hap := appended hgrow3 hb2 hbb hnR; have p0 := hap.cell 0; have pf := fun j => hap.frozen j)
          | (go_simp; go_at_call 29; refine (ih u hm ok s _ hs2.drew (by omega)).mono ?_; rintro e w2 ⟨v2, rfl, hv2, hbb⟩; obtain ⟨sa, sc, rfl, _⟩ := hv2.shape; generalize u.args.length = sn at *; have z0 := (hbb.cell (p := ⟨R, 0, none⟩) hRw).trans t0; have hmk2 := hmk.drew.bel hbb; have hwz : wr.heap.size ≤ w2.heap.size := hbb.size; have z0a := cell_alloc_old hbb hRw t0))
      all_goals
        have hB2 : Below N w w2 := hbl.drew.trans (hbb.mono (by show N ≤ wr.heap.size; omega))
        have hB3 : Below N w w3 := (hB2.alloc (by omega) _).grown hgrow3 (by simp; omega) (fun j hj => by have := (hmk2.lt j hj).1; omega)
        have hmk3 := hmk2.snoc (cap := cap2) hv2 hMw HL.out hgrow3 hat3 (by rw [HKK.out]; exact hown3)
        rw [HKK.out] at hmk3
        have e0 := (appended hgrow3 hb0 hbb hn0).other (B' := R) (by omega) 0 (.slice (some ⟨g2, 0, none⟩) (k + 1) cap2)
        have e1 := (appended hgrow3 hb1 hbb hn1).other (B' := R) (by omega) 0 (.slice (some ⟨g2, 0, none⟩) (k + 1) cap2)
        have e2 := hap.set 0 (.slice (some ⟨g2, 0, none⟩) (k + 1) cap2)
        have hmk4 := hmk3.set (R := R) (by omega) 0 (.slice (some ⟨g2, 0, none⟩) (k + 1) cap2)
        have hB4 : Below N w (w3.setCell ⟨R, 0, none⟩ (.slice (some ⟨g2, 0, none⟩) (k + 1) cap2)) := bset hB3 (by omega) _
        clear hown3 hgrow3 hat3 hlt3 hB2 hB3 hmk2 hmk3 z0a z0 hbb p0 pf hap
        generalize w3.setCell ⟨R, 0, none⟩ (.slice (some ⟨g2, 0, none⟩) (k + 1) cap2) = W4 at *
        go_wp2
        exact ⟨⟨k + 1, .slice (some ⟨g2, 0, none⟩) (k + 1) cap2, ps ++ [(.slice sa sn sc, u)], by omega, by go_num, by show _ = _; rw [List.map_append]; exact HP2.out, e0, e1, e2, hmk4, hB4⟩, by simp [intOf]; omega⟩
    · obtain rfl : k = ts.length := by omega
      have t1 := hb2.cell 1
      have s0 := hb1.cell 0
      have s1 := hb1.cell 1
      have f0 := hb1.frozen 0
      have f1 := hb1.frozen 1
      have hh4 := hmk.holds
      rw [HP.out, List.take_length] at hh4
      obtain ⟨va, vc, rfl, _⟩ := hh4.shape
      have c0 := (hb1.set 0 (.slice va ts.length vc)).set 1 (.int .i64 t.base)
      have hh5 : Holds ((wr.setCell ⟨N + 1, 0, none⟩ (.slice va ts.length vc)).setCell ⟨N + 1, 1, none⟩ (.int .i64 t.base)) (fun b => N ≤ b) ts (.slice va ts.length vc) := by
        have h := ((hmk.set (R := N + 1) (by omega) 0 (.slice va ts.length vc)).set (R := N + 1) (by omega) 1 (.int .i64 t.base)).holds
        rw [HP.out, List.take_length] at h
        exact h.mono fun b _ hb => by omega
      have hB5 : Below N w ((wr.setCell ⟨N + 1, 0, none⟩ (.slice va ts.length vc)).setCell ⟨N + 1, 1, none⟩ (.int .i64 t.base)) := bset (bset hbl (by omega) _) (by omega) _
      go_wp2
      generalize (wr.setCell ⟨N + 1, 0, none⟩ (.slice va ts.length vc)).setCell ⟨N + 1, 1, none⟩ (.int .i64 t.base) = W5 at *
      have d0 : W5.cell? ⟨N + 1, 0, none⟩ = some (.slice va ts.length vc) := c0.cell 0
      have d1 : W5.cell? ⟨N + 1, 1, none⟩ = some (.int .i64 t.base) := c0.cell 1
      exact bodyPost_ret (v := tv (.slice va ts.length vc) t.base) (by simp [results, Try.results29, go_sem, d0, d1]) rfl ⟨_, rfl, hh5, hB5⟩

end Go.Proofs.Ytckagmagjogmnaa
