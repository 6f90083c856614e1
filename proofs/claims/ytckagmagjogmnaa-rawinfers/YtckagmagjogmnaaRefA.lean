/-
  The contracts of the document's own Arrow and Rest.
-/
import Derived.Test.YtckagmagjogmnaaArrR
import Derived.Test.YtckagmagjogmnaaHeadC
import Derived.WideShapes
namespace Go.Proofs.Ytckagmagjogmnaa
open Go Go.RowKit Go.Shelf

set_option maxRecDepth 100000 in
set_option maxHeartbeats 3200000 in
theorem refArrow_calls (t : Ty) (us : List Ty) (ok : Nat → Prop) (sl sl' : Value) (w : World) (hh : Holds w ok t.args sl) (hh' : Holds w ok us sl') (hsz : t.args.length + us.length ≤ 1000000) :
    Calls Try.prog 79 #[tv sl t.base, sl'] w fun e w' => ∃ v, e = .returned (tv v t.base) ∧ Holds w' (fun b => ok b ∨ w.heap.size ≤ b) (us ++ t.args) v ∧ Below w.heap.size w w' := by
  obtain ⟨ts, hts⟩ : ∃ ts, t.args = ts := ⟨_, rfl⟩
  rw [hts] at hh hsz ⊢
  obtain ⟨i0, hi, hz0, hz1, hz2⟩ := info_parts info24
  obtain ⟨a, cap, rfl, hcap, hat⟩ := hh.shape
  have HA : Hid _ := hat
  obtain ⟨a', cap', rfl, hcap', hat'⟩ := hh'.shape
  have HAu : Hid _ := hat'
  clear hat hh hat' hh'
  obtain ⟨N, hN⟩ : ∃ N, w.heap.size = N := ⟨_, rfl⟩
  have HN : Hid (w.heap.size = N) := hN
  rw [hN]
  go_enter Try.func79, Try.ntmps79
  go_wp2_with fail
  generalize hw0 : ((w.alloc (.cells #[.slice a ts.length cap, .int .i64 t.base] 24)).alloc (.cells #[.slice none 0 0, .int .i64 0] 24)).alloc (.cells #[.slice none 0 0, .int .i64 t.base] 24) = w0
  have b0 : Blk w0 N 24 #[.slice a ts.length cap, .int .i64 t.base] := by rw [← hw0]; exact ((Blk.new' w N 24 _ hN).alloc _).alloc _
  have b1 : Blk w0 (N + 1) 24 #[.slice none 0 0, .int .i64 0] := by rw [← hw0]; exact (Blk.new' _ (N + 1) 24 _ (by simp [hN])).alloc _
  have b2 : Blk w0 (N + 1 + 1) 24 #[.slice none 0 0, .int .i64 t.base] := by rw [← hw0]; exact Blk.new' _ (N + 1 + 1) 24 _ (by simp [hN])
  have bl0 : Below N w w0 := by rw [← hw0]; exact (((Below.refl N w).alloc (by omega) _).alloc (by simp; omega) _).alloc (by simp; omega) _
  clear hw0
  obtain ⟨R, hR⟩ : ∃ R, N + 1 + 1 = R := ⟨_, rfl⟩
  obtain ⟨M, hM⟩ : ∃ M, R + 1 = M := ⟨_, rfl⟩
  rw [hR] at b2 ⊢
  clear hN
  go_loopw [6] (fun i wr => ∃ (k : Nat) (vk : Value) (ps : List (Value × Ty)), k ≤ us.length ∧ i = .int .i64 k ∧ Hid (ps.map (·.2) = us.take k) ∧ Blk wr N 24 #[.slice a ts.length cap, .int .i64 t.base] ∧ Blk wr (N + 1) 24 #[.slice none 0 0, .int .i64 0] ∧ Blk wr R 24 #[vk, .int .i64 t.base] ∧ wr.ownsRow M 24 2 vk ps.length (pcells ps) ∧ (∀ p ∈ ps, Holds w ok p.2.args p.1) ∧ Below N w wr)
    (fun i _ => us.length - (intOf i).toNat)
  case atStart => exact ⟨0, _, [], Nat.zero_le _, rfl, rfl, b0, b1, b2, World.ownsRow_nil _ _ _ _, (fun p hp => by cases hp), bl0⟩
  case round =>
    clear b0 b1 b2 bl0
    obtain ⟨k, vk, ps, hk, rfl, HP, hb0, hb1, hb2, hrow, hkid, hbl⟩ := hrel
    have HK : Hid _ := hkid
    have r0 := hb0.cell 0
    have t0 := hb2.cell 0
    have hRw : R < wr.heap.size := hb2.lt
    have hlP : (us.take k).length ≤ us.length + ts.length := by simp; omega
    have hpl : ps.length ≤ us.length + ts.length := by have := congrArg List.length HP.out; rw [List.length_map] at this; omega
    clear hkid
    by_cases hlt : k < us.length
    · obtain ⟨u, hu⟩ : ∃ u, us[k]? = some u := ⟨_, List.getElem?_eq_getElem hlt⟩
      obtain ⟨g, o, s, rfl, _, hg, e0, e1, hs⟩ := HAu.out k u hu
      rw [HN.out] at hg
      have q0 := (cat hbl hg).trans e0
      have q1 := (cat hbl hg).trans e1
      have y1 : (0 : Int) ≤ (k : Int) := by omega
      have y2 : (k : Int) < (us.length : Int) := by omega
      have HP2 : Hid (ps.map (·.2) ++ [u] = us.take (k + 1)) := by show _ = _; rw [HP.out, List.take_add_one, hu]; simp
      have HK2 : Hid (∀ p ∈ ps ++ [(s, u)], Holds w ok p.2.args p.1) := fun p hp => by
        rcases List.mem_append.1 hp with hp | hp
        · exact HK.out p hp
        · rw [List.mem_singleton.1 hp]; exact hs
      obtain ⟨sa, sc, rfl, _⟩ := hs.shape
      generalize u.args.length = sn at *
      have hMw : M ≤ wr.heap.size := by omega
      have hnR : vk.ownBlock ≠ some R := fun e => by have := (hrow.lt R e).1; omega
      have hn0 : vk.ownBlock ≠ some N := fun e => by have := (hrow.lt N e).1; omega
      have hn1 : vk.ownBlock ≠ some (N + 1) := fun e => by have := (hrow.lt (N + 1) e).1; omega
      have hVR : Hid (∀ b, vk.ownBlock = some b → M ≤ b) := fun b hb => (hrow.lt b hb).1
      have hrd : wr.drew.ownsRow M 24 2 vk ps.length (pcells ps) := hrow
      have z0 : ∀ ob, (wr.drew.alloc ob).cell? ⟨R, 0, none⟩ = some vk := fun ob => (hb2.drew.alloc ob).cell 0
      have z1 : ∀ ob, (wr.drew.alloc ob).cell? ⟨N, 0, none⟩ = some (.slice a ts.length cap) := fun ob => (hb0.drew.alloc ob).cell 0
      clear e0 e1 hu hs HP hrow
      go_wp2_with fail
      go_region_law (refine step_append_lies _ rfl _ _ 22 rfl M 24 i0 _ 2 32 Try.underlying22 hi hz0 hz1 hz2 rfl (by decide) _ ps.length (pcells ps) rfl (hrd.alloc _) ⟨wr.heap.size, 0, none⟩ 1 1 [.slice sa sn sc, .int .i64 u.base] rfl rfl (cell_two_new _ _ _ _) (by simp [Value.oneCell']) (by omega) (by unfold maxLen; omega) (by omega) (by simp; omega) _ rfl ?_; intro g2 cap2 w3 hown3 hgrow3 hat3 hlt3; have hap := (hb2.drew.alloc (.cells #[.slice sa sn sc, .int .i64 u.base] 24)).kept hgrow3 (fun e => hnR e.symm); have p0 := hap.cell 0; have pf := fun j => hap.frozen j)
      all_goals
        have hB3 : Below N w w3 := (hbl.drew.alloc (by show N ≤ wr.heap.size; omega) _).grown hgrow3 (by simp; omega) (fun j hj => by have := hVR.out j hj; omega)
        have hg2R : g2 ≠ R := by
          rcases hat3 with h | h
          · have := hVR.out g2 h; omega
          · rw [h]; simp; omega
        have f0 := ((hb0.drew.alloc (.cells #[.slice sa sn sc, .int .i64 u.base] 24)).kept hgrow3 (fun e => hn0 e.symm)).other (B' := R) (by omega) 0 (.slice (some ⟨g2, 0, none⟩) (ps.length + 1) cap2)
        have f1 := ((hb1.drew.alloc (.cells #[.slice sa sn sc, .int .i64 u.base] 24)).kept hgrow3 (fun e => hn1 e.symm)).other (B' := R) (by omega) 0 (.slice (some ⟨g2, 0, none⟩) (ps.length + 1) cap2)
        have f2 := hap.set 0 (.slice (some ⟨g2, 0, none⟩) (ps.length + 1) cap2)
        have hown4 : (w3.setCell ⟨R, 0, none⟩ (.slice (some ⟨g2, 0, none⟩) (ps.length + 1) cap2)).ownsRow M 24 2 (.slice (some ⟨g2, 0, none⟩) (ps.length + 1) cap2) (ps ++ [(Value.slice sa sn sc, u)]).length (pcells (ps ++ [(Value.slice sa sn sc, u)])) := by
          rw [List.length_append, pcells_append]
          exact hown3.kept (grownBy_setCell_at w3 R 0 _) (.inr (by simp [Value.ownBlock]; exact hg2R))
        have hB4 : Below N w (w3.setCell ⟨R, 0, none⟩ (.slice (some ⟨g2, 0, none⟩) (ps.length + 1) cap2)) := bset hB3 (by omega) _
        clear hown3 hgrow3 hat3 hlt3 hB3 p0 pf hap z0 z1 hrd
        generalize w3.setCell ⟨R, 0, none⟩ (.slice (some ⟨g2, 0, none⟩) (ps.length + 1) cap2) = W4 at *
        go_wp2
        exact ⟨⟨k + 1, .slice (some ⟨g2, 0, none⟩) (ps.length + 1) cap2, ps ++ [(Value.slice sa sn sc, u)], by omega, by go_num, by show _ = _; rw [List.map_append]; exact HP2.out, f0, f1, f2, hown4, HK2.out, hB4⟩, by simp [intOf]; omega⟩
    · obtain rfl : k = us.length := by omega
      rw [List.take_length] at HP
      go_wp2_with fail
      go_loopw [7] (fun i wr => ∃ (k : Nat) (vk : Value) (ps : List (Value × Ty)), k ≤ ts.length ∧ i = .int .i64 k ∧ Hid (ps.map (·.2) = us ++ ts.take k) ∧ Blk wr N 24 #[.slice a ts.length cap, .int .i64 t.base] ∧ Blk wr (N + 1) 24 #[.slice none 0 0, .int .i64 0] ∧ Blk wr R 24 #[vk, .int .i64 t.base] ∧ wr.ownsRow M 24 2 vk ps.length (pcells ps) ∧ (∀ p ∈ ps, Holds w ok p.2.args p.1) ∧ Below N w wr)
        (fun i _ => ts.length - (intOf i).toNat)
      case atStart => exact ⟨0, _, _, Nat.zero_le _, rfl, by show _ = _; simp; exact HP.out, hb0, hb1, hb2, hrow, HK.out, hbl⟩
      case round =>
        clear hb0 hb1 hb2 hrow HK hbl HP hlP hpl r0 t0 hRw ps
        obtain ⟨k, vk, ps, hk, rfl, HP, hb0, hb1, hb2, hrow, hkid, hbl⟩ := hrel
        have HK : Hid _ := hkid
        have r0 := hb0.cell 0
        have t0 := hb2.cell 0
        have hRw : R < wr.heap.size := hb2.lt
        have hlP : (us ++ ts.take k).length ≤ us.length + ts.length := by simp; omega
        have hpl : ps.length ≤ us.length + ts.length := by have := congrArg List.length HP.out; rw [List.length_map] at this; omega
        clear hkid
        by_cases hlt : k < ts.length
        · obtain ⟨u, hu⟩ : ∃ u, ts[k]? = some u := ⟨_, List.getElem?_eq_getElem hlt⟩
          obtain ⟨g, o, s, rfl, _, hg, e0, e1, hs⟩ := HA.out k u hu
          rw [HN.out] at hg
          have q0 := (cat hbl hg).trans e0
          have q1 := (cat hbl hg).trans e1
          have y1 : (0 : Int) ≤ (k : Int) := by omega
          have y2 : (k : Int) < (ts.length : Int) := by omega
          have HP2 : Hid (ps.map (·.2) ++ [u] = us ++ ts.take (k + 1)) := by show _ = _; rw [HP.out, List.take_add_one, hu]; simp
          have HK2 : Hid (∀ p ∈ ps ++ [(s, u)], Holds w ok p.2.args p.1) := fun p hp => by
            rcases List.mem_append.1 hp with hp | hp
            · exact HK.out p hp
            · rw [List.mem_singleton.1 hp]; exact hs
          obtain ⟨sa, sc, rfl, _⟩ := hs.shape
          generalize u.args.length = sn at *
          have hMw : M ≤ wr.heap.size := by omega
          have hnR : vk.ownBlock ≠ some R := fun e => by have := (hrow.lt R e).1; omega
          have hn0 : vk.ownBlock ≠ some N := fun e => by have := (hrow.lt N e).1; omega
          have hn1 : vk.ownBlock ≠ some (N + 1) := fun e => by have := (hrow.lt (N + 1) e).1; omega
          have hVR : Hid (∀ b, vk.ownBlock = some b → M ≤ b) := fun b hb => (hrow.lt b hb).1
          have hrd : wr.drew.ownsRow M 24 2 vk ps.length (pcells ps) := hrow
          have z0 : ∀ ob, (wr.drew.alloc ob).cell? ⟨R, 0, none⟩ = some vk := fun ob => (hb2.drew.alloc ob).cell 0
          have z1 : ∀ ob, (wr.drew.alloc ob).cell? ⟨N, 0, none⟩ = some (.slice (some ⟨g, o, none⟩) ts.length cap) := fun ob => (hb0.drew.alloc ob).cell 0
          clear e0 e1 hu hs HP hrow
          go_wp2_with fail
          go_region_law (refine step_append_lies _ rfl _ _ 22 rfl M 24 i0 _ 2 32 Try.underlying22 hi hz0 hz1 hz2 rfl (by decide) _ ps.length (pcells ps) rfl (hrd.alloc _) ⟨wr.heap.size, 0, none⟩ 1 1 [.slice sa sn sc, .int .i64 u.base] rfl rfl (cell_two_new _ _ _ _) (by simp [Value.oneCell']) (by omega) (by unfold maxLen; omega) (by omega) (by simp; omega) _ rfl ?_; intro g2 cap2 w3 hown3 hgrow3 hat3 hlt3; have hap := (hb2.drew.alloc (.cells #[.slice sa sn sc, .int .i64 u.base] 24)).kept hgrow3 (fun e => hnR e.symm); have p0 := hap.cell 0; have pf := fun j => hap.frozen j)
          all_goals
            have hB3 : Below N w w3 := (hbl.drew.alloc (by show N ≤ wr.heap.size; omega) _).grown hgrow3 (by simp; omega) (fun j hj => by have := hVR.out j hj; omega)
            have hg2R : g2 ≠ R := by
              rcases hat3 with h | h
              · have := hVR.out g2 h; omega
              · rw [h]; simp; omega
            have f0 := ((hb0.drew.alloc (.cells #[.slice sa sn sc, .int .i64 u.base] 24)).kept hgrow3 (fun e => hn0 e.symm)).other (B' := R) (by omega) 0 (.slice (some ⟨g2, 0, none⟩) (ps.length + 1) cap2)
            have f1 := ((hb1.drew.alloc (.cells #[.slice sa sn sc, .int .i64 u.base] 24)).kept hgrow3 (fun e => hn1 e.symm)).other (B' := R) (by omega) 0 (.slice (some ⟨g2, 0, none⟩) (ps.length + 1) cap2)
            have f2 := hap.set 0 (.slice (some ⟨g2, 0, none⟩) (ps.length + 1) cap2)
            have hown4 : (w3.setCell ⟨R, 0, none⟩ (.slice (some ⟨g2, 0, none⟩) (ps.length + 1) cap2)).ownsRow M 24 2 (.slice (some ⟨g2, 0, none⟩) (ps.length + 1) cap2) (ps ++ [(Value.slice sa sn sc, u)]).length (pcells (ps ++ [(Value.slice sa sn sc, u)])) := by
              rw [List.length_append, pcells_append]
              exact hown3.kept (grownBy_setCell_at w3 R 0 _) (.inr (by simp [Value.ownBlock]; exact hg2R))
            have hB4 : Below N w (w3.setCell ⟨R, 0, none⟩ (.slice (some ⟨g2, 0, none⟩) (ps.length + 1) cap2)) := bset hB3 (by omega) _
            clear hown3 hgrow3 hat3 hlt3 hB3 p0 pf hap z0 z1 hrd
            generalize w3.setCell ⟨R, 0, none⟩ (.slice (some ⟨g2, 0, none⟩) (ps.length + 1) cap2) = W4 at *
            go_wp2
            exact ⟨⟨k + 1, .slice (some ⟨g2, 0, none⟩) (ps.length + 1) cap2, ps ++ [(Value.slice sa sn sc, u)], by omega, by go_num, by show _ = _; rw [List.map_append]; exact HP2.out, f0, f1, f2, hown4, HK2.out, hB4⟩, by simp [intOf]; omega⟩
        · obtain rfl : k = ts.length := by omega
          have t1 := hb2.cell 1
          have s0 := hb1.cell 0
          have s1 := hb1.cell 1
          have f0 := hb1.frozen 0
          have f1 := hb1.frozen 1
          rw [List.take_length] at HP
          obtain ⟨va, vc, rfl⟩ := row_shape hrow
          obtain ⟨vn, hvn⟩ : ∃ vn, ps.length = vn := ⟨_, rfl⟩
          have hmk : Holds ((wr.setCell ⟨N + 1, 0, none⟩ (.slice va vn vc)).setCell ⟨N + 1, 1, none⟩ (.int .i64 t.base)) (fun b => ok b ∨ N ≤ b) (us ++ ts) (.slice va vn vc) := by
            rw [← HP.out, ← hvn]
            have h2 : Holds wr (fun b => (ok b ∨ N ≤ b) ∧ b ≠ N + 1) (ps.map (·.2)) (.slice va ps.length vc) := holds_of_row hrow (fun p hp => ((HK.out p hp).mono (ok' := fun b => (ok b ∨ N ≤ b) ∧ b ≠ N + 1) (fun b hb ho => ⟨.inl ho, by rw [HN.out] at hb; omega⟩)).bel (by rw [HN.out]; exact hbl)) (fun b hb => ⟨.inr (by omega), by omega⟩)
            exact (holds_set2 h2 (fun b _ ho => ⟨ho.2, ho.1⟩) 0 1 _ _)
          have c0 := (hb1.set 0 (.slice va vn vc)).set 1 (.int .i64 t.base)
          have hB5 : Below N w ((wr.setCell ⟨N + 1, 0, none⟩ (.slice va vn vc)).setCell ⟨N + 1, 1, none⟩ (.int .i64 t.base)) := bset (bset hbl (by omega) _) (by omega) _
          rw [hvn] at hb2
          have t0 := hb2.cell 0
          go_wp2
          generalize (wr.setCell ⟨N + 1, 0, none⟩ (.slice va vn vc)).setCell ⟨N + 1, 1, none⟩ (.int .i64 t.base) = W5 at *
          have d0 : W5.cell? ⟨N + 1, 0, none⟩ = some (.slice va vn vc) := c0.cell 0
          have d1 : W5.cell? ⟨N + 1, 1, none⟩ = some (.int .i64 t.base) := c0.cell 1
          exact bodyPost_ret (v := tv (.slice va vn vc) t.base) (by simp [results, Try.results79, go_sem, d0, d1]) rfl ⟨_, rfl, hmk, hB5⟩

set_option maxRecDepth 100000 in
set_option maxHeartbeats 3200000 in
theorem refRest_calls (t : Ty) (n : Nat) (ok : Nat → Prop) (sl : Value) (w : World) (hh : Holds w ok t.args sl) (hn : n ≤ t.args.length) (hsz : t.args.length ≤ 1000000) :
    Calls Try.prog 80 #[tv sl t.base, .int .i64 (n : Int)] w fun e w' => ∃ v, e = .returned (tv v t.base) ∧ Holds w' (fun b => ok b ∨ w.heap.size ≤ b) (t.args.drop n) v ∧ Below w.heap.size w w' := by
  obtain ⟨ts, hts⟩ : ∃ ts, t.args = ts := ⟨_, rfl⟩
  rw [hts] at hh hn hsz ⊢
  obtain ⟨a, cap, rfl, hcap, _⟩ := hh.shape
  obtain ⟨N, hN⟩ : ∃ N, w.heap.size = N := ⟨_, rfl⟩
  rw [hN]
  have y1 : (0 : Int) ≤ (n : Int) := by omega
  have y2 : (n : Int) ≤ (ts.length : Int) := by omega
  go_enter Try.func80, Try.ntmps80
  go_wp2_with fail
  generalize hw0 : (w.alloc (.cells #[.slice a ts.length cap, .int .i64 t.base] 24)).alloc (.cells #[.slice none 0 0, .int .i64 0] 24) = w0
  have b0 : Blk w0 N 24 #[.slice a ts.length cap, .int .i64 t.base] := by rw [← hw0]; exact (Blk.new' w N 24 _ hN).alloc _
  have b1 : Blk w0 (N + 1) 24 #[.slice none 0 0, .int .i64 0] := by rw [← hw0]; exact Blk.new' _ (N + 1) 24 _ (by simp [hN])
  have hz : w0.heap.size = N + 1 + 1 := by rw [← hw0]; simp [hN]
  have bl0 : Below N w w0 := by rw [← hw0]; exact ((Below.refl N w).alloc (by omega) _).alloc (by simp; omega) _
  have hh1 : Holds w0 (fun b => ok b ∧ b < N) ts (.slice a ts.length cap) := (hh.mono (ok' := fun b => ok b ∧ b < N) (fun b hb ho => ⟨ho, by omega⟩)).bel (by rw [hN]; exact bl0)
  clear hw0
  have c0 := b0.cell 0
  have c1 := b0.cell 1
  have s0 := b1.cell 0
  have s1 := b1.cell 1
  have f0 := b1.frozen 0
  have f1 := b1.frozen 1
  have hcall : ∀ x : Option Addr, x = (if cap = n then a else Option.map (fun x => x.add (n * 2)) a) → Calls Try.prog 79 #[tv (.slice none 0 0) t.base, .slice x (ts.length - n) (cap - n)] w0.drew fun e w' => ∃ va vn vc, e = .returned (tv (.slice va vn vc) t.base) ∧ Holds w' (fun b => (ok b ∧ b < N) ∨ N + 1 + 1 ≤ b) (ts.drop n) (.slice va vn vc) ∧ Below (N + 1 + 1) w0 w' := by
    rintro x rfl
    have hc := refArrow_calls (.mk [] t.base) (ts.drop n) (fun b => ok b ∧ b < N) (.slice none 0 0) _ w0.drew (Holds.nil _ _ _ _ (fun _ => rfl)) (hh1.drew.cut n hn hcap) (by show 0 + (ts.drop n).length ≤ _; simp; omega)
    refine hc.mono ?_
    rintro e w' ⟨v, rfl, hv, hb⟩
    obtain ⟨va, vc, rfl, _⟩ := hv.shape
    have hz' : w0.drew.heap.size = N + 1 + 1 := hz
    rw [hz'] at hv hb
    refine ⟨va, _, vc, rfl, ?_, (Below.refl _ w0).drew.trans hb⟩
    have he : ts.drop n ++ (Ty.mk [] t.base).args = ts.drop n := by simp [Ty.args]
    rw [he] at hv ⊢
    exact hv
  have HC : Hid _ := hcall
  clear hcall
  go_region_law (go_simp; go_at_call 79; refine (HC.out _ (by first | rfl | congr)).mono ?_; rintro e w2 ⟨va, vn, vc, rfl, hv, hb2⟩; have d0 := (cat hb2 (show N + 1 < N + 1 + 1 by omega)).trans s0; have d1 := (cat hb2 (show N + 1 < N + 1 + 1 by omega)).trans s1; have hB2 := b1.below hb2 (by omega); have g0 := hB2.frozen 0; have g1 := hB2.frozen 1)
  all_goals
    have c9 := (hB2.set 0 (.slice va vn vc)).set 1 (.int .i64 t.base)
    have hH9 : Holds ((w2.setCell ⟨N + 1, 0, none⟩ (.slice va vn vc)).setCell ⟨N + 1, 1, none⟩ (.int .i64 t.base)) (fun b => ok b ∨ N ≤ b) (ts.drop n) (.slice va vn vc) := holds_set2 hv (fun b _ ho => ⟨by rcases ho with h | h <;> omega, by rcases ho with h | h; exact .inl h.1; exact .inr (by omega)⟩) _ _ _ _
    have hB9 : Below N w ((w2.setCell ⟨N + 1, 0, none⟩ (.slice va vn vc)).setCell ⟨N + 1, 1, none⟩ (.int .i64 t.base)) := bset (bset (bl0.trans (hb2.mono (by omega))) (by omega) _) (by omega) _
    clear hv hb2 d0 d1 hB2 g0 g1
    generalize (w2.setCell ⟨N + 1, 0, none⟩ (.slice va vn vc)).setCell ⟨N + 1, 1, none⟩ (.int .i64 t.base) = W5 at *
    have d0 : W5.cell? ⟨N + 1, 0, none⟩ = some (.slice va vn vc) := c9.cell 0
    have d1 : W5.cell? ⟨N + 1, 1, none⟩ = some (.int .i64 t.base) := c9.cell 1
    go_wp2
    all_goals exact bodyPost_ret (v := tv (.slice va vn vc) t.base) (by simp [results, Try.results80, go_sem, d0, d1]) rfl ⟨_, rfl, hH9, hB9⟩

end Go.Proofs.Ytckagmagjogmnaa
