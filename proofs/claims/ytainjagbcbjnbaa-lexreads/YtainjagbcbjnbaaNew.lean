/-
  The contract of lex.New: a reader of tokens, ahead of the first one.
-/
import Derived.Test.YtainjagbcbjnbaaTake
import Derived.Laws.MakeOwn
import Derived.Deep.AppendLies
import Derived.Deep.RegionLaw
namespace Go.Proofs.Ytainjagbcbjnbaa
open Go Go.RowKit Go.Shelf Go.Sort Plain Lex

theorem row_below {w w' : World} {base size n : Nat} {e : TypeId} {v : Value} {xs : List Value} (h : w.ownsRow base e size v n xs) (hb : Below w.drew.heap.size w.drew w') : w'.ownsRow base e size v n xs := by
  obtain ⟨h1, h2⟩ := h
  refine ⟨h1, ?_⟩
  rcases h2 with h2 | ⟨g, cap, cur, e1, e2, e3, e4⟩
  · exact .inl h2
  · refine .inr ⟨g, cap, cur, e1, e2, ?_, e4⟩
    have hlt : g < w.heap.size := (Array.getElem?_eq_some_iff.1 e3).1
    exact (hb.block g hlt).trans e3
theorem cell_alloc_old {w w' : World} {R i : Nat} {x : Value} (hb : Below w.drew.heap.size w.drew w') (hR : R < w.heap.size) (h : w.cell? ⟨R, i, none⟩ = some x) (o : Obj) : (w'.alloc o).cell? ⟨R, i, none⟩ = some x :=
  (World.cell?_of_block (w := w') (Below.heap_alloc w' o R (Nat.lt_of_lt_of_le hR hb.size))).trans ((hb.cell (p := ⟨R, i, none⟩) hR).trans h)
/-- The reader's own block behind the append. -/
theorem appended {w w' w3 : World} {R : Nat} {t : TypeId} {vs : Array Value} {vk : Value} {o : Obj} (hg : (w'.alloc o).grownBy w3 vk.ownBlock) (h : Blk w R t vs) (hb : Below w.drew.heap.size w.drew w') (hn : vk.ownBlock ≠ some R) : Blk w3 R t vs :=
  ((h.drew.below hb h.lt).alloc o).kept hg (fun e => hn e.symm)

set_option maxRecDepth 100000 in
set_option maxHeartbeats 3200000 in
theorem New_calls (v : Value) (ts : List Tok) (s : ByteArray) (B : Nat) (hfew : ts.length ≤ 300) (hshort : s.size ≤ 300) (hsmall : ∀ t ∈ ts, t.text.size ≤ 300 ∧ t.pos ≤ s.size) (w : World) (hrow : TRow w B 46 v ts) :
    Calls Try.prog 18 #[v, .string s] w fun e w' => ∃ R v', e = .returned (.pointer (some ⟨R, 0, none⟩)) ∧ w.heap.size ≤ R ∧ Rd w' 90 46 R w.heap.size v' ts s 0 ∧ Below w.heap.size w w' := by
  obtain ⟨N, hN⟩ : ∃ N, w.heap.size = N := ⟨_, rfl⟩
  have HN : Hid (w.heap.size = N) := hN
  obtain ⟨i0, hi, hz0, hz1, hz2⟩ := info_parts info46
  obtain ⟨a, cap, rfl, hcap, hat⟩ := hrow.shape
  have HA : Hid _ := hat
  clear hat hrow
  rw [hN] at HA ⊢
  have hmk : ∀ u : World, (Instr.makeSlice 22 (.int .i64 0) (.int .i64 (ts.length : Int))).run Try.prog u = .ok (.slice (some ⟨u.heap.size, 0, none⟩) 0 ts.length) (u.alloc (.cells (madeCells (Value.agg #[.int .i64 0, .string ⟨#[]⟩, .int .i64 0]).cells (ts.length * 3)) 46)) := fun u => by
    have := run_make (P := Try.prog) u 22 46 i0 (.agg #[.int .i64 0, .string ⟨#[]⟩, .int .i64 0]) Try.underlying22 hi hz0 .i64 .i64 0 (ts.length : Int) (by omega) (by omega) (by rw [hz2]; omega) (by omega)
    rw [hz1] at this
    simpa using this
  have hcs : (madeCells (Value.agg #[.int .i64 0, .string ⟨#[]⟩, .int .i64 0]).cells (ts.length * 3)).size = ts.length * 3 := size_madeCells _ _
  generalize madeCells (Value.agg #[.int .i64 0, .string ⟨#[]⟩, .int .i64 0]).cells (ts.length * 3) = cs at *
  go_enter Try.func18, Try.ntmps18
  go_wp2_with fail
  go_region_with (first | (go_at_call 43; refine (clone_calls s (by omega) _).mono ?_; rintro e w1 ⟨rfl, hb1⟩; obtain ⟨M, hM⟩ : ∃ M, w1.heap.size = M := ⟨_, rfl⟩) | rw [hmk])
  · have hNM : N ≤ M := by rw [← hM, ← HN.out]; exact hb1.size
    obtain ⟨R, hR⟩ : ∃ R, M + 1 = R := ⟨_, rfl⟩
    have hNR : N ≤ R := by omega
    have hNG : N ≤ M := hNM
    have hGR : M ≠ R := by omega
    rw [hR]
    generalize hV : (w1.alloc (.cells cs 46)).alloc (.cells #[.slice (some ⟨M, 0, none⟩) 0 ts.length, .string s, .int .i64 0] 90) = V
    have hblk : Blk V R 90 #[.slice (some ⟨M, 0, none⟩) 0 ts.length, .string s, .int .i64 0] := by rw [← hV]; exact Blk.new' _ R 90 _ (by simp [hM, hR])
    have hown : V.ownsRow N 46 3 (.slice (some ⟨M, 0, none⟩) 0 ts.length) 0 [] := by
      rw [← hV, ← hM]
      exact (World.ownsRow_made w1 cs ts.length (by omega) (by unfold maxLen; omega) hcs).alloc _
    have hbV : Below N w V := by
      rw [← hV]
      have h1 : Below N w w1 := by
        have := hb1.mono (B' := N) (by show N ≤ w.heap.size; rw [HN.out]; exact Nat.le_refl _)
        exact ((Below.refl N w).drew).trans this
      exact (h1.alloc (by omega) _).alloc (by simp; omega) _
    clear hV hM hR
    clear hmk hb1
    simp only [List.getElem_toArray, List.getElem_cons_succ, List.getElem_cons_zero]
    go_wp2_with fail
    go_loopw [17] (fun i wr => ∃ (k : Nat) (vk : Value), k ≤ ts.length ∧ i = .int .i64 k ∧ Blk wr R 90 #[vk, .string s, .int .i64 0] ∧ wr.ownsRow N 46 3 vk k (tcells (ts.take k)) ∧ vk.ownBlock ≠ some R ∧ Below N w wr)
      (fun i _ => ts.length - (intOf i).toNat)
    case atStart => exact ⟨0, _, Nat.zero_le _, rfl, hblk, by simpa [tcells] using hown, by simp [Value.ownBlock]; omega, hbV⟩
    case round =>
      clear hblk hown hbV
      obtain ⟨k, vk, hk, rfl, hblk, hown, hnb, hbl⟩ := hrel
      have hRw : R < wr.heap.size := hblk.lt
      by_cases hlt : k < ts.length
      · obtain ⟨t, ht⟩ : ∃ t, ts[k]? = some t := ⟨_, List.getElem?_eq_getElem hlt⟩
        obtain ⟨g, rfl, _, hg, a0, a1, a2⟩ := HA.out k t ht
        have htk : ts.take (k + 1) = ts.take k ++ [t] := by rw [List.take_add_one, ht]; rfl
        have hts := (hsmall t (List.mem_of_getElem? ht)).1
        have q0 := (hbl.cell (p := ⟨g, k * 3, none⟩) (by omega)).trans a0
        have q1 := (hbl.cell (p := ⟨g, k * 3 + 1, none⟩) (by omega)).trans a1
        have q2 := (hbl.cell (p := ⟨g, k * 3 + 2, none⟩) (by omega)).trans a2
        have HTK : Hid (tcells (ts.take (k + 1)) = tcells (ts.take k) ++ [.int .i64 t.kind, .string t.text, .int .i64 t.pos]) := by
          show _ = _
          rw [htk, tcells_append]; rfl
        clear a0 a1 a2 htk ht
        have y1 : (0 : Int) ≤ (k : Int) := by omega
        have y2 : (k : Int) < (ts.length : Int) := by omega
        obtain ⟨M2, hM2⟩ : ∃ M2, wr.heap.size = M2 := ⟨_, rfl⟩
        go_wp2_with fail
        generalize hX : wr.alloc (.cells #[.int .i64 t.kind, .string t.text, .int .i64 t.pos] 46) = X
        have x0 : Blk X M2 46 #[.int .i64 t.kind, .string t.text, .int .i64 t.pos] := by rw [← hX]; exact Blk.new' wr M2 46 _ hM2
        have xR : Blk X R 90 #[vk, .string s, .int .i64 0] := by rw [← hX]; exact hblk.alloc _
        have xo : X.ownsRow N 46 3 vk k (tcells (ts.take k)) := by rw [← hX]; exact hown.alloc _
        have xb : Below N w X := by rw [← hX]; exact hbl.alloc (by have := hbl.size; omega) _
        have hRM2 : R < M2 := by omega
        clear hX hblk hown hbl hM2 q0 q1 q2
        have m0 : X.cell? ⟨M2, 0, none⟩ = some (.int .i64 t.kind) := x0.cell 0
        have m1 : X.cell? ⟨M2, 1, none⟩ = some (.string t.text) := x0.cell 1
        have m2 : X.cell? ⟨M2, 2, none⟩ = some (.int .i64 t.pos) := x0.cell 2
        have r0 : X.cell? ⟨R, 0, none⟩ = some vk := xR.cell 0
        have hRX : R < X.heap.size := xR.lt
        have hNX : N ≤ X.heap.size := by have := xb.size; omega
        go_region_law (first
            | (refine step_append_lies _ rfl _ _ 22 rfl N 46 i0 _ 3 32 Try.underlying22 hi hz0 hz1 hz2 rfl (by decide) _ k (tcells (ts.take k)) rfl (hrow2.alloc _) ⟨w2.heap.size, 0, none⟩ 1 1 [.int .i64 t.kind, .string t.text, .int .i64 t.pos] rfl rfl (cell_three_new _ _ _ _ _) (by simp [Value.oneCell']) (by omega) (by unfold maxLen; omega) (by omega) (by simp; omega) _ rfl ?_; intro g2 cap2 w3 hown3 hgrow3 hat3 hlt3; have hap := appended hgrow3 xR hb2 hnb; have p0 := hap.cell 0; have pf := fun j => hap.frozen j)
            | (go_simp; go_at_call 33; refine (fresh_calls t.kind t.text t.pos (by omega) _).mono ?_; rintro e w2 ⟨rfl, hb2⟩; have z0 := (hb2.cell (p := ⟨R, 0, none⟩) hRX).trans r0; have hrow2 := row_below xo hb2; have hbn : N ≤ w2.heap.size := Nat.le_trans hNX hb2.size; have z0a := cell_alloc_old hb2 hRX r0))
        all_goals
          have hB3 : Below N w w3 := ((xb.drew.trans (hb2.mono hNX)).alloc hbn _).grown hgrow3 (by simp; omega) (fun j hj => (hrow2.lt j hj).1)
          have hg2R : g2 ≠ R := by
            rcases hat3 with h | h
            · intro e; rw [e] at h; exact hnb h
            · have := hb2.size
              have h5 : R < w2.heap.size := Nat.lt_of_lt_of_le hRX this
              rw [h]; simp; omega
          have hown4 : (w3.setCell ⟨R, 0, none⟩ (.slice (some ⟨g2, 0, none⟩) (k + 1) cap2)).ownsRow N 46 3 (.slice (some ⟨g2, 0, none⟩) (k + 1) cap2) (k + 1) (tcells (ts.take (k + 1))) := by
            rw [HTK.out]
            exact hown3.kept (grownBy_setCell_at w3 R 0 _) (.inr (by simp [Value.ownBlock]; exact hg2R))
          have hap2 := hap.set 0 (.slice (some ⟨g2, 0, none⟩) (k + 1) cap2)
          have hB4 : Below N w (w3.setCell ⟨R, 0, none⟩ (.slice (some ⟨g2, 0, none⟩) (k + 1) cap2)) := bset hB3 hNR _
          clear hown3 hgrow3 hat3 hlt3 hB3 hrow2 z0a z0 hb2 p0 pf hap
          generalize w3.setCell ⟨R, 0, none⟩ (.slice (some ⟨g2, 0, none⟩) (k + 1) cap2) = W4 at *
          go_wp2
          exact ⟨⟨k + 1, .slice (some ⟨g2, 0, none⟩) (k + 1) cap2, by omega, by go_num, hap2, hown4, by simp [Value.ownBlock]; exact hg2R, hB4⟩, by simp [intOf]; omega⟩
      · obtain rfl : k = ts.length := by omega
        go_wp2
        go_ret
        refine ⟨R, vk, rfl, hNR, ⟨hblk, ?_, Nat.zero_le _, hfew, hshort, hnb, hsmall⟩, hbl⟩
        rw [List.take_length] at hown
        exact hown
  · have hw0 : (w.alloc (.cells cs 46)).drew.heap.size = N + 1 := by show (w.alloc _).heap.size = _; simp [HN.out]
    have hNM : N < M := by rw [← hM]; have := hb1.size; omega
    obtain ⟨R, rfl⟩ : ∃ R, R = M := ⟨_, rfl⟩
    have hNR : N ≤ R := by omega
    have hGR : N ≠ R := by omega
    generalize hV : w1.alloc (.cells #[.slice (some ⟨N, 0, none⟩) 0 ts.length, .string s, .int .i64 0] 90) = V
    have hblk : Blk V R 90 #[.slice (some ⟨N, 0, none⟩) 0 ts.length, .string s, .int .i64 0] := by rw [← hV]; exact Blk.new' _ R 90 _ hM
    have hown0 : (w.alloc (.cells cs 46)).drew.ownsRow N 46 3 (.slice (some ⟨N, 0, none⟩) 0 ts.length) 0 [] := by
      have := World.ownsRow_made (base := N) (e := 46) (size := 3) w cs ts.length (by rw [HN.out]; exact Nat.le_refl _) (by unfold maxLen; omega) hcs
      rw [HN.out] at this
      exact this
    have hown : V.ownsRow N 46 3 (.slice (some ⟨N, 0, none⟩) 0 ts.length) 0 [] := by
      rw [← hV]
      have h1 : TRow ((w.alloc (.cells cs 46)).drew) N 46 (.slice (some ⟨N, 0, none⟩) 0 ts.length) [] := hown0
      exact (h1.below hb1).alloc _
    have hbV : Below N w V := by
      rw [← hV]
      have h1 : Below N w ((w.alloc (.cells cs 46)).drew) := ((Below.refl N w).alloc (by rw [HN.out]; exact Nat.le_refl _) _).drew
      exact ((h1.trans (hb1.mono (by omega))).alloc (by omega) _)
    clear hV hM hown0 hw0
    clear hmk hb1
    simp only [List.getElem_toArray, List.getElem_cons_succ, List.getElem_cons_zero]
    go_wp2_with fail
    go_loopw [17] (fun i wr => ∃ (k : Nat) (vk : Value), k ≤ ts.length ∧ i = .int .i64 k ∧ Blk wr R 90 #[vk, .string s, .int .i64 0] ∧ wr.ownsRow N 46 3 vk k (tcells (ts.take k)) ∧ vk.ownBlock ≠ some R ∧ Below N w wr)
      (fun i _ => ts.length - (intOf i).toNat)
    case atStart => exact ⟨0, _, Nat.zero_le _, rfl, hblk, by simpa [tcells] using hown, by simp [Value.ownBlock]; omega, hbV⟩
    case round =>
      clear hblk hown hbV
      obtain ⟨k, vk, hk, rfl, hblk, hown, hnb, hbl⟩ := hrel
      have hRw : R < wr.heap.size := hblk.lt
      by_cases hlt : k < ts.length
      · obtain ⟨t, ht⟩ : ∃ t, ts[k]? = some t := ⟨_, List.getElem?_eq_getElem hlt⟩
        obtain ⟨g, rfl, _, hg, a0, a1, a2⟩ := HA.out k t ht
        have htk : ts.take (k + 1) = ts.take k ++ [t] := by rw [List.take_add_one, ht]; rfl
        have hts := (hsmall t (List.mem_of_getElem? ht)).1
        have q0 := (hbl.cell (p := ⟨g, k * 3, none⟩) (by omega)).trans a0
        have q1 := (hbl.cell (p := ⟨g, k * 3 + 1, none⟩) (by omega)).trans a1
        have q2 := (hbl.cell (p := ⟨g, k * 3 + 2, none⟩) (by omega)).trans a2
        have HTK : Hid (tcells (ts.take (k + 1)) = tcells (ts.take k) ++ [.int .i64 t.kind, .string t.text, .int .i64 t.pos]) := by
          show _ = _
          rw [htk, tcells_append]; rfl
        clear a0 a1 a2 htk ht
        have y1 : (0 : Int) ≤ (k : Int) := by omega
        have y2 : (k : Int) < (ts.length : Int) := by omega
        obtain ⟨M2, hM2⟩ : ∃ M2, wr.heap.size = M2 := ⟨_, rfl⟩
        go_wp2_with fail
        generalize hX : wr.alloc (.cells #[.int .i64 t.kind, .string t.text, .int .i64 t.pos] 46) = X
        have x0 : Blk X M2 46 #[.int .i64 t.kind, .string t.text, .int .i64 t.pos] := by rw [← hX]; exact Blk.new' wr M2 46 _ hM2
        have xR : Blk X R 90 #[vk, .string s, .int .i64 0] := by rw [← hX]; exact hblk.alloc _
        have xo : X.ownsRow N 46 3 vk k (tcells (ts.take k)) := by rw [← hX]; exact hown.alloc _
        have xb : Below N w X := by rw [← hX]; exact hbl.alloc (by have := hbl.size; omega) _
        have hRM2 : R < M2 := by omega
        clear hX hblk hown hbl hM2 q0 q1 q2
        have m0 : X.cell? ⟨M2, 0, none⟩ = some (.int .i64 t.kind) := x0.cell 0
        have m1 : X.cell? ⟨M2, 1, none⟩ = some (.string t.text) := x0.cell 1
        have m2 : X.cell? ⟨M2, 2, none⟩ = some (.int .i64 t.pos) := x0.cell 2
        have r0 : X.cell? ⟨R, 0, none⟩ = some vk := xR.cell 0
        have hRX : R < X.heap.size := xR.lt
        have hNX : N ≤ X.heap.size := by have := xb.size; omega
        go_region_law (first
            | (refine step_append_lies _ rfl _ _ 22 rfl N 46 i0 _ 3 32 Try.underlying22 hi hz0 hz1 hz2 rfl (by decide) _ k (tcells (ts.take k)) rfl (hrow2.alloc _) ⟨w2.heap.size, 0, none⟩ 1 1 [.int .i64 t.kind, .string t.text, .int .i64 t.pos] rfl rfl (cell_three_new _ _ _ _ _) (by simp [Value.oneCell']) (by omega) (by unfold maxLen; omega) (by omega) (by simp; omega) _ rfl ?_; intro g2 cap2 w3 hown3 hgrow3 hat3 hlt3; have hap := appended hgrow3 xR hb2 hnb; have p0 := hap.cell 0; have pf := fun j => hap.frozen j)
            | (go_simp; go_at_call 33; refine (fresh_calls t.kind t.text t.pos (by omega) _).mono ?_; rintro e w2 ⟨rfl, hb2⟩; have z0 := (hb2.cell (p := ⟨R, 0, none⟩) hRX).trans r0; have hrow2 := row_below xo hb2; have hbn : N ≤ w2.heap.size := Nat.le_trans hNX hb2.size; have z0a := cell_alloc_old hb2 hRX r0))
        all_goals
          have hB3 : Below N w w3 := ((xb.drew.trans (hb2.mono hNX)).alloc hbn _).grown hgrow3 (by simp; omega) (fun j hj => (hrow2.lt j hj).1)
          have hg2R : g2 ≠ R := by
            rcases hat3 with h | h
            · intro e; rw [e] at h; exact hnb h
            · have := hb2.size
              have h5 : R < w2.heap.size := Nat.lt_of_lt_of_le hRX this
              rw [h]; simp; omega
          have hown4 : (w3.setCell ⟨R, 0, none⟩ (.slice (some ⟨g2, 0, none⟩) (k + 1) cap2)).ownsRow N 46 3 (.slice (some ⟨g2, 0, none⟩) (k + 1) cap2) (k + 1) (tcells (ts.take (k + 1))) := by
            rw [HTK.out]
            exact hown3.kept (grownBy_setCell_at w3 R 0 _) (.inr (by simp [Value.ownBlock]; exact hg2R))
          have hap2 := hap.set 0 (.slice (some ⟨g2, 0, none⟩) (k + 1) cap2)
          have hB4 : Below N w (w3.setCell ⟨R, 0, none⟩ (.slice (some ⟨g2, 0, none⟩) (k + 1) cap2)) := bset hB3 hNR _
          clear hown3 hgrow3 hat3 hlt3 hB3 hrow2 z0a z0 hb2 p0 pf hap
          generalize w3.setCell ⟨R, 0, none⟩ (.slice (some ⟨g2, 0, none⟩) (k + 1) cap2) = W4 at *
          go_wp2
          exact ⟨⟨k + 1, .slice (some ⟨g2, 0, none⟩) (k + 1) cap2, by omega, by go_num, hap2, hown4, by simp [Value.ownBlock]; exact hg2R, hB4⟩, by simp [intOf]; omega⟩
      · obtain rfl : k = ts.length := by omega
        go_wp2
        go_ret
        refine ⟨R, vk, rfl, hNR, ⟨hblk, ?_, Nat.zero_le _, hfew, hshort, hnb, hsmall⟩, hbl⟩
        rw [List.take_length] at hown
        exact hown

end Go.Proofs.Ytainjagbcbjnbaa
