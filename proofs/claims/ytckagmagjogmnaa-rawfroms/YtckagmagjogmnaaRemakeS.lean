/-
  The contract of raw.remake over step's closure.
-/
import Derived.Test.YtckagmagjogmnaaRemake
namespace Go.Proofs.Ytckagmagjogmnaa
open Go Go.RowKit

set_option maxRecDepth 100000 in
set_option maxHeartbeats 3200000 in
theorem remakeS_calls (t : Rw) (ok : Nat → Prop) (sb sl : Value) (p1 : Value) (w : World) (S : List Nat) (P : List Rw → World → Prop) (hb : Holds w ok t.ty.args sb) (ha : HoldsR w ok t.kids sl) (hok : ∀ b, ok b → b ∉ S) (hS : ∀ b ∈ S, b < w.heap.size) (hsz : t.ty.size ≤ 1000000) (hkl : t.kids.length ≤ 1000000) (hP0 : P [] w) (hPs : Stays w P) (hF : MapsR 83 #[p1] w S P t.kids) :
    Calls Try.prog 73 #[rwv t.kind sb t.ty.base t.idx sl, .func (.func 83) #[] #[p1]] w (Remade S P t.kids.length t w) := by
  have HI : Hid _ := hF
  have HPS : Hid _ := hPs
  obtain ⟨ts, hts⟩ : ∃ ts, t.kids = ts := ⟨_, rfl⟩
  rw [hts] at ha HI hkl ⊢
  have hb' : Holds w (fun b => b < w.heap.size ∧ b ∉ S) t.ty.args sb := hb.mono fun b h1 h2 => ⟨h1, hok b h2⟩
  have ha' : HoldsR w (fun b => b < w.heap.size ∧ b ∉ S) ts sl := ha.mono fun b h1 h2 => ⟨h1, hok b h2⟩
  obtain ⟨x1, x2, rfl, _⟩ := hb.shape
  obtain ⟨x3, x4, rfl, _⟩ := ha.shape
  obtain ⟨bn, hbn⟩ : ∃ n, t.ty.args.length = n := ⟨_, rfl⟩
  obtain ⟨ln, hll⟩ : ∃ n, ts.length = n := ⟨_, rfl⟩
  rw [hbn] at hb' ⊢
  rw [hll] at ha' hkl ⊢
  obtain ⟨N, hN⟩ : ∃ N, w.heap.size = N := ⟨_, rfl⟩
  have HN : Hid (w.heap.size = N) := hN
  rw [hN] at hb' ha' hS
  obtain ⟨W0, hW0⟩ : ∃ W0, (w.alloc (.cells #[.int .i64 t.kind, .slice x1 bn x2, .int .i64 t.ty.base, .int .i64 t.idx, .slice x3 ln x4] 35)).alloc (.cells #[.int .i64 0, .slice none 0 0, .int .i64 0, .int .i64 0, .slice none 0 0] 35) = W0 := ⟨_, rfl⟩
  have b0 : Blk W0 N 35 #[.int .i64 t.kind, .slice x1 bn x2, .int .i64 t.ty.base, .int .i64 t.idx, .slice x3 ln x4] := by rw [← hW0]; exact (Blk.new' w N 35 _ hN).alloc _
  have b1 : Blk W0 (N + 1) 35 #[.int .i64 0, .slice none 0 0, .int .i64 0, .int .i64 0, .slice none 0 0] := by rw [← hW0]; exact Blk.new' _ (N + 1) 35 _ (by simp [hN])
  have hz0 : W0.heap.size = N + 2 := by rw [← hW0]; simp [hN]
  have bl0 : Below N w W0 := by rw [← hW0]; exact ((Below.refl N w).alloc (by omega) _).alloc (by simp; omega) _
  have ha0 : HoldsR W0 (fun b => b < N ∧ b ∉ S) ts (.slice x3 ln x4) := ha'.bel (by rw [hN]; exact bl0)
  have hcl := CloneR_calls ts _ _ W0 ha0 (by omega)
  rw [hz0] at hcl
  have HW : Hid _ := hW0
  have HT : Hid (ts.length = ln) := hll
  have HA : Hid _ := ha'
  have HB : Hid _ := hb'
  have c4 := b0.cell 4
  have hty := hsz
  have hln2 := hkl
  clear hsz hkl
  have HP0 : Hid (P [] W0) := HPS.out _ _ _ hP0 (by rw [hN]; exact bl0)
  clear hW0 hb ha hb' ha' hF hPs hts hbn hll hP0
  go_enter Try.func73, Try.ntmps73
  go_upto_region 1 with fail
  rw [HW.out]
  clear HW
  go_wp2_with fail
  refine hcl.mono ?_
  rintro e w1 ⟨v1, qs, rfl, hrow, hqs, hkid, hb1⟩
  obtain ⟨va, vc, rfl⟩ := row_shape hrow
  have HQ : Hid (qs.map (·.t) = ts) := hqs
  have hqn : qs.length = ln := by rw [← HT.out, ← HQ.out, List.length_map]
  have hql : qs.length ≤ 1000000 := by omega
  have e0 := b0.below hb1 (by omega)
  have e1 := b1.below hb1 (by omega)
  have hon : Only S w w1 := (Only.of_below' (by rw [hN]; exact bl0)).trans ((Only.of_below' (by rw [hz0]; exact hb1)))
  have HP1 : Hid (P [] w1) := HPS.out _ _ _ HP0.out (by rw [HN.out]; exact hb1.mono (by omega))
  have hk0 : Hid (∀ p ∈ qs, Holds w (fun b => b < N ∧ b ∉ S) p.t.ty.args p.sb ∧ HoldsR w (fun b => b < N ∧ b ∉ S) p.t.kids p.sr) := fun p hp => by
    have h := hkid p hp
    have hback : ∀ b, b < W0.heap.size → (b < N ∧ b ∉ S) → w.heap[b]? = W0.heap[b]? ∧ (b < N ∧ b ∉ S) := fun b _ ho => ⟨(bl0.block b ho.1).symm, ho⟩
    exact ⟨h.1.keep hback, h.2.keep hback⟩
  have HQN : Hid (qs.length = ln) := hqn
  clear hqs hqn hkid hcl c4 b0 b1 bl0 ha0 hb1 hln2 HP0
  go_wp2_with fail
  go_loopw [13] (fun i wr => ∃ (k : Nat) (rs : List Rc), k ≤ qs.length ∧ i = .int .i64 k ∧ Hid (rs.length = k) ∧ Hid (P (rs.map (·.t)) wr) ∧ wr.ownsRow (N + 2) 35 5 (.slice va qs.length vc) qs.length (rcells (rs ++ qs.drop k)) ∧ (∀ p ∈ rs, Holds wr (fun b => N + 2 ≤ b ∧ (Value.slice va qs.length vc).ownBlock ≠ some b) p.t.ty.args p.sb ∧ HoldsR wr (fun b => N + 2 ≤ b ∧ (Value.slice va qs.length vc).ownBlock ≠ some b) p.t.kids p.sr) ∧ Blk wr N 35 #[.int .i64 t.kind, .slice x1 bn x2, .int .i64 t.ty.base, .int .i64 t.idx, .slice x3 ln x4] ∧ Blk wr (N + 1) 35 #[.int .i64 0, .slice none 0 0, .int .i64 0, .int .i64 0, .slice none 0 0] ∧ N + 2 ≤ wr.heap.size ∧ Only S w wr)
    (fun i _ => qs.length - (intOf i).toNat)
  case atStart => exact ⟨0, [], Nat.zero_le _, rfl, rfl, HP1.out, by simpa using hrow, (fun p hp => by cases hp), e0, e1, by have := e1.lt; omega, hon⟩
  case round =>
    clear hrow e0 e1 hon HP1
    obtain ⟨k, rs, hk, rfl, HR, HPk, hrow, hkid, hB0, hB1, hNw, hbl⟩ := hrel
    by_cases hlt : k < qs.length
    · obtain ⟨p, hp⟩ : ∃ p, qs[k]? = some p := ⟨_, List.getElem?_eq_getElem hlt⟩
      obtain ⟨g, vc', e1, hNg, hgl⟩ := hrow.form (by omega)
      cases e1
      have hdr : qs.drop k = p :: qs.drop (k + 1) := by
        obtain ⟨hl, he⟩ := List.getElem?_eq_some_iff.1 hp
        rw [List.drop_eq_getElem_cons hl, he]
      rw [hdr] at hrow
      have hc := World.ownsRow.cellAt hrow
      have hg0 := rcells_get (rs ++ p :: qs.drop (k + 1)) k p (by rw [← HR.out, List.getElem?_append_right (Nat.le_refl _)]; simp)
      have c0 : wr.cell? ⟨g, k * 5, none⟩ = some (.int .i64 p.t.kind) := (hc _ (by omega)).trans hg0.1
      have c1 : wr.cell? ⟨g, k * 5 + 1, none⟩ = some p.sb := (hc _ (by omega)).trans hg0.2.1
      have c2 : wr.cell? ⟨g, k * 5 + 2, none⟩ = some (.int .i64 p.t.ty.base) := (hc _ (by omega)).trans hg0.2.2.1
      have c3 : wr.cell? ⟨g, k * 5 + 3, none⟩ = some (.int .i64 p.t.idx) := (hc _ (by omega)).trans hg0.2.2.2.1
      have c4 : wr.cell? ⟨g, k * 5 + 4, none⟩ = some p.sr := (hc _ (by omega)).trans hg0.2.2.2.2
      have hpm := List.mem_of_getElem? hp
      have hkeep : ∀ b, b < w.heap.size → (b < N ∧ b ∉ S) → wr.heap[b]? = w.heap[b]? ∧ (b < N ∧ b ∉ S) := fun b h1 h2 => ⟨hbl.block b h1 h2.2, h2⟩
      have hpB : Holds wr (fun b => b < N ∧ b ∉ S) p.t.ty.args p.sb := (hk0.out p hpm).1.keep hkeep
      have hpH : HoldsR wr (fun b => b < N ∧ b ∉ S) p.t.kids p.sr := (hk0.out p hpm).2.keep hkeep
      have hpc := HI.out (rs.map (·.t)) p.t (fun b => b < N ∧ b ∉ S) p.sb p.sr (wr.alloc (.cells #[.int .i64 p.t.kind, p.sb, .int .i64 p.t.ty.base, .int .i64 p.t.idx, p.sr] 35)) (by rw [List.length_map, HR.out, ← HQ.out, List.getElem?_map, hp]; rfl) (HPS.out _ _ _ HPk.out ((Below.refl _ _).alloc (by rw [HN.out]; omega) _)) (hbl.alloc _) (hpB.alloc _) (hpH.alloc _) (fun b h => by rw [HN.out]; exact h)
      obtain ⟨sa, sc, hps, _⟩ := hpB.shape
      obtain ⟨sd, se, hpr, _⟩ := hpH.shape
      have y1 : (0 : Int) ≤ (k : Int) := by omega
      have y2 : (k : Int) < (qs.length : Int) := by omega
      have hrow1 := hrow.alloc (.cells #[.int .i64 p.t.kind, p.sb, .int .i64 p.t.ty.base, .int .i64 p.t.idx, p.sr] 35)
      have hb1 : Below wr.heap.size wr (wr.alloc (.cells #[.int .i64 p.t.kind, p.sb, .int .i64 p.t.ty.base, .int .i64 p.t.idx, p.sr] 35)) := (Below.refl _ _).alloc (Nat.le_refl _) _
      have hbl1 := hbl.alloc (.cells #[.int .i64 p.t.kind, p.sb, .int .i64 p.t.ty.base, .int .i64 p.t.idx, p.sr] 35)
      have hB01 := hB0.alloc (.cells #[.int .i64 p.t.kind, p.sb, .int .i64 p.t.ty.base, .int .i64 p.t.idx, p.sr] 35)
      have hB11 := hB1.alloc (.cells #[.int .i64 p.t.kind, p.sb, .int .i64 p.t.ty.base, .int .i64 p.t.idx, p.sr] 35)
      rw [hps] at c1
      rw [hpr] at c4
      rw [hps, hpr] at hpc hrow1 hb1 hbl1 hB01 hB11
      clear hp hdr hg0 hc hpH hpB
      have d0 := (cat hb1 hgl).trans c0
      have d1 := (cat hb1 hgl).trans c1
      have d2 := (cat hb1 hgl).trans c2
      have d3 := (cat hb1 hgl).trans c3
      have d4 := (cat hb1 hgl).trans c4
      have hgl1 := Nat.lt_of_lt_of_le hgl hb1.size
      have hgS : g ∉ S := fun h => by have := hS g h; omega
      have hNS : N ∉ S := fun h => by have := hS N h; omega
      have hN1S : N + 1 ∉ S := fun h => by have := hS (N + 1) h; omega
      go_wp2_with (go_at_call 83; refine hpc.mono ?_; rintro e w2 ⟨v, ⟨vb2, vr2, rfl, hvb2, hvr2, hb2⟩, hPv⟩; obtain ⟨ta, tc, rfl, _⟩ := hvb2.shape; obtain ⟨td, te, rfl, _⟩ := hvr2.shape; have e0 := (hb2.cell (p := ⟨g, k * 5, none⟩) hgl1 hgS).trans d0; have e1 := (hb2.cell (p := ⟨g, k * 5 + 1, none⟩) hgl1 hgS).trans d1; have e2 := (hb2.cell (p := ⟨g, k * 5 + 2, none⟩) hgl1 hgS).trans d2; have e3 := (hb2.cell (p := ⟨g, k * 5 + 3, none⟩) hgl1 hgS).trans d3; have e4 := (hb2.cell (p := ⟨g, k * 5 + 4, none⟩) hgl1 hgS).trans d4; have hrow2 := row_only hrow1 hb2 hgl1 hgS; have f0 := row_frozen hrow2 (k * 5); have f1 := row_frozen hrow2 (k * 5 + 1); have f2 := row_frozen hrow2 (k * 5 + 2); have f3 := row_frozen hrow2 (k * 5 + 3); have f4 := row_frozen hrow2 (k * 5 + 4))
      generalize v.ty.args.length = un at *
      generalize v.kids.length = um at *
      have hB2 : Only S w w2 := hbl1.trans hb2
      obtain ⟨W3, hW3⟩ : ∃ W3, ((((w2.setCell ⟨g, k * 5, none⟩ (.int .i64 v.kind)).setCell ⟨g, k * 5 + 1, none⟩ (.slice ta un tc)).setCell ⟨g, k * 5 + 2, none⟩ (.int .i64 v.ty.base)).setCell ⟨g, k * 5 + 3, none⟩ (.int .i64 v.idx)).setCell ⟨g, k * 5 + 4, none⟩ (.slice td um te) = W3 := ⟨_, rfl⟩
      have hg9 : w.heap.size ≤ g := by rw [HN.out]; omega
      have hB3 : Only S w W3 := by rw [← hW3]; exact ((((hB2.setNew hg9 _ _).setNew hg9 _ _).setNew hg9 _ _).setNew hg9 _ _).setNew hg9 _ _
      have hBb : Below N w2 W3 := by rw [← hW3]; exact bset (bset (bset (bset (bset (Below.refl _ _) (by omega) _) (by omega) _) (by omega) _) (by omega) _) (by omega) _
      have hrow3 := row_set (row_set (row_set (row_set (row_set hrow2 (k * 5) (.int .i64 v.kind)) (k * 5 + 1) (.slice ta un tc)) (k * 5 + 2) (.int .i64 v.ty.base)) (k * 5 + 3) (.int .i64 v.idx)) (k * 5 + 4) (.slice td um te)
      have hk2 : Hid ((((((rcells (rs ++ p :: qs.drop (k + 1))).set (k * 5) (.int .i64 v.kind)).set (k * 5 + 1) (.slice ta un tc)).set (k * 5 + 2) (.int .i64 v.ty.base)).set (k * 5 + 3) (.int .i64 v.idx)).set (k * 5 + 4) (.slice td um te) = rcells ((rs ++ [(⟨.slice ta un tc, .slice td um te, v⟩ : Rc)]) ++ qs.drop (k + 1))) := by
        show _ = _
        have h9 := rcells_set rs p (qs.drop (k + 1)) ⟨.slice ta un tc, .slice td um te, v⟩
        rw [HR.out] at h9
        rw [h9, List.append_assoc]
        rfl
      rw [hk2.out, hW3] at hrow3
      have hok2 : ∀ b, b < w2.heap.size → wr.heap.size + 1 ≤ b → b ≠ g ∧ N + 2 ≤ b ∧ (Value.slice (some ⟨g, 0, none⟩) qs.length vc).ownBlock ≠ some b := fun b _ ho => by
        have hbg : b ≠ g := by omega
        exact ⟨hbg, by omega, fun e => hbg (by cases e; rfl)⟩
      have hold : ∀ b, b < wr.heap.size → (N + 2 ≤ b ∧ (Value.slice (some ⟨g, 0, none⟩) qs.length vc).ownBlock ≠ some b) → w2.heap[b]? = wr.heap[b]? ∧ (N + 2 ≤ b ∧ (Value.slice (some ⟨g, 0, none⟩) qs.length vc).ownBlock ≠ some b) := fun b h1 h2 => ⟨(hb2.block b (by have := hb1.size; omega) (fun h => by have := hS b h; omega)).trans (hb1.block b h1), h2⟩
      have hkid2 : ∀ q ∈ rs ++ [(⟨.slice ta un tc, .slice td um te, v⟩ : Rc)], Holds W3 (fun b => N + 2 ≤ b ∧ (Value.slice (some ⟨g, 0, none⟩) qs.length vc).ownBlock ≠ some b) q.t.ty.args q.sb ∧ HoldsR W3 (fun b => N + 2 ≤ b ∧ (Value.slice (some ⟨g, 0, none⟩) qs.length vc).ownBlock ≠ some b) q.t.kids q.sr := by
        intro q hq
        rw [← hW3]
        rcases List.mem_append.1 hq with hq | hq
        · exact ⟨holds_set5' ((hkid q hq).1.keep hold) (fun b _ ho => ⟨fun e => ho.2 (by rw [e]; rfl), ho⟩) _ _ _ _ _ _ _ _ _ _, holdsR_set5' ((hkid q hq).2.keep hold) (fun b _ ho => ⟨fun e => ho.2 (by rw [e]; rfl), ho⟩) _ _ _ _ _ _ _ _ _ _⟩
        · rw [List.mem_singleton.1 hq]
          exact ⟨holds_set5' hvb2 (fun b hb ho => hok2 b hb (by simpa using ho)) _ _ _ _ _ _ _ _ _ _, holdsR_set5' hvr2 (fun b hb ho => hok2 b hb (by simpa using ho)) _ _ _ _ _ _ _ _ _ _⟩
      have HP9 : Hid (P ((rs ++ [(⟨.slice ta un tc, .slice td um te, v⟩ : Rc)]).map (·.t)) W3) := by show P _ _; rw [List.map_append]; exact HPS.out _ _ _ hPv (by rw [HN.out]; exact hBb)
      have k0 : Blk W3 N 35 _ := (hB01.only hb2 hNS).below (n := N + 1) (by rw [← hW3]; exact bset (bset (bset (bset (bset (Below.refl _ _) (by omega) _) (by omega) _) (by omega) _) (by omega) _) (by omega) _) (by omega)
      have k1 : Blk W3 (N + 1) 35 _ := (hB11.only hb2 hN1S).below (n := N + 2) (by rw [← hW3]; exact bset (bset (bset (bset (bset (Below.refl _ _) (by omega) _) (by omega) _) (by omega) _) (by omega) _) (by omega) _) (by omega)
      clear hrow hrow1 hrow2 hkid hbl hb2 hB2 hvb2 hvr2 hb1 hpc c0 c1 c2 c3 c4 d0 d1 d2 d3 d4 e0 e1 e2 e3 e4 f0 f1 f2 f3 f4 hk2 hok2 hbl1 hB01 hB11 hB0 hB1 hold hBb hPv
      rw [hW3]
      clear hW3
      go_roundw
      case rel => exact ⟨k + 1, rs ++ [⟨.slice ta un tc, .slice td um te, v⟩], by omega, by go_num, by show _ = _; rw [List.length_append, HR.out]; rfl, HP9, hrow3, hkid2, k0, k1, by have := k1.lt; omega, hB3⟩
      case measure => simp [intOf]; omega
    · obtain rfl : k = qs.length := by omega
      rw [List.drop_length, List.append_nil] at hrow
      have hRS : HoldsR wr (fun b => N + 2 ≤ b) (rs.map (·.t)) (.slice va qs.length vc) := holdsR_of_row (M := N + 2) (e := 35) (by rw [HR.out]; exact hrow) (fun p hp => (hkid p hp).1.mono fun b _ h => h.1) (fun p hp => (hkid p hp).2.mono fun b _ h => h.1) (fun b h => h)
      have HLR : Hid ((rs.map (·.t)).length = ln) := by show _ = _; rw [List.length_map, HR.out, HQN.out]
      have hTY : Holds wr (fun b => b < N ∧ b ∉ S) t.ty.args (.slice x1 bn x2) := HB.out.keep fun b h1 h2 => ⟨hbl.block b h1 h2.2, h2⟩
      generalize rs.map (·.t) = outs at *
      generalize qs.length = qn at *
      clear hrow hkid HR hlt HI hk0 HQ hk HQN HA HT
      obtain ⟨M, hM⟩ : ∃ M, wr.heap.size = M := ⟨_, rfl⟩
      have q0 := hB0.cell 0
      have q1 := hB0.cell 1
      have q2 := hB0.cell 2
      have q3 := hB0.cell 3
      have hK : ∀ v, Cur wr v → v.cell? ⟨N, 0, none⟩ = some (.int .i64 t.kind) ∧ v.cell? ⟨N, 1, none⟩ = some (.slice x1 bn x2) ∧ v.cell? ⟨N, 2, none⟩ = some (.int .i64 t.ty.base) ∧ v.cell? ⟨N, 3, none⟩ = some (.int .i64 t.idx) := fun v hv => ⟨hv.cell q0, hv.cell q1, hv.cell q2, hv.cell q3⟩
      have kft : ∀ cur, Cur wr cur → Calls Try.prog 72 #[tv (.slice x1 bn x2) t.ty.base] cur fun e w' => ∃ v, e = .returned (tv v t.ty.base) ∧ Holds w' (fun b => cur.heap.size ≤ b) t.ty.args v ∧ Below cur.heap.size cur w' ∧ Cur wr w' := fun cur hc =>
        (freshType_calls t.ty _ _ cur (hc.holds hTY) hty).mono fun e w' ⟨v, h1, h2, h3⟩ => ⟨v, h1, h2, h3, hc.then h3⟩
      have hcur := Cur.refl wr
      go_wp2_with fail
      go_region_held3 (fun v => v.cell? ⟨N, 0, none⟩ = some (.int .i64 t.kind) ∧ v.cell? ⟨N, 1, none⟩ = some (.slice x1 bn x2) ∧ v.cell? ⟨N, 2, none⟩ = some (.int .i64 t.ty.base) ∧ v.cell? ⟨N, 3, none⟩ = some (.int .i64 t.idx))
        (first | with_reducible exact hK _ (by first | with_reducible assumption | (with_reducible refine Cur.drew ?_; assumption)) | with_reducible exact cells_set5 _ _ _ _ _ (hK _ (by first | with_reducible assumption | (with_reducible refine Cur.drew ?_; assumption))))
        (first | (go_at_call 72; refine (kft _ (by first | with_reducible assumption | (with_reducible refine Cur.drew ?_; assumption))).mono ?_; rintro e y9 ⟨v9, rfl, hv9, hb9, hc9⟩; obtain ⟨ua, uc, rfl, _⟩ := hv9.shape; have m9 := hB1.below (show Below wr.heap.size wr y9 from hc9) hB1.lt; have r0 := m9.cell 0; have r1 := m9.cell 1; have r2 := m9.cell 2; have r3 := m9.cell 3; have r4 := m9.cell 4; have f0 := m9.frozen 0; have f1 := m9.frozen 1; have f2 := m9.frozen 2; have f3 := m9.frozen 3; have f4 := m9.frozen 4))
      all_goals
        generalize t.ty.args.length = un at *
        have hc9' : Below M wr y9 := by rw [← hM]; exact hc9
        have hn9 : N + 2 ≤ M := by omega
        have hwr9 : wr.heap.size = M := hM
        have h5 := holds_set5 (g := N + 1) (ok' := fun b => w.heap.size ≤ b) hv9 (fun b _ h => ⟨by have h8 : wr.drew.heap.size = M := hM; omega, by have h8 : wr.drew.heap.size = M := hM; rw [HN.out]; omega⟩) (.int .i64 t.kind) (.slice ua un uc) (.int .i64 t.ty.base) (.int .i64 t.idx) (.slice va qn vc)
        have h6 := holdsR_set5 (g := N + 1) (ok' := fun b => w.heap.size ≤ b) (hRS.bel (show Below wr.heap.size wr y9 from hc9)) (fun b _ h => ⟨by omega, by rw [HN.out]; omega⟩) (.int .i64 t.kind) (.slice ua un uc) (.int .i64 t.ty.base) (.int .i64 t.idx) (.slice va qn vc)
        have c5 := ((((m9.set 0 (.int .i64 t.kind)).set 1 (.slice ua un uc)).set 2 (.int .i64 t.ty.base)).set 3 (.int .i64 t.idx)).set 4 (.slice va qn vc)
        have hg9 : w.heap.size ≤ N + 1 := by rw [HN.out]; omega
        have hO := (((((hbl.trans (Only.of_below' (show Below wr.heap.size wr y9 from hc9))).setNew hg9 0 (.int .i64 t.kind)).setNew hg9 1 (.slice ua un uc)).setNew hg9 2 (.int .i64 t.ty.base)).setNew hg9 3 (.int .i64 t.idx)).setNew hg9 4 (.slice va qn vc)
        have HP5 := HPS.out _ _ _ HPk.out (show Below w.heap.size wr (((((y9.setCell ⟨N + 1, 0, none⟩ (.int .i64 t.kind)).setCell ⟨N + 1, 1, none⟩ (.slice ua un uc)).setCell ⟨N + 1, 2, none⟩ (.int .i64 t.ty.base)).setCell ⟨N + 1, 3, none⟩ (.int .i64 t.idx)).setCell ⟨N + 1, 4, none⟩ (.slice va qn vc)) by rw [HN.out]; exact bset (bset (bset (bset (bset (hc9'.mono (by omega)) (by omega) _) (by omega) _) (by omega) _) (by omega) _) (by omega) _)
        go_wp2
        generalize (((((y9.setCell ⟨N + 1, 0, none⟩ (.int .i64 t.kind)).setCell ⟨N + 1, 1, none⟩ (.slice ua un uc)).setCell ⟨N + 1, 2, none⟩ (.int .i64 t.ty.base)).setCell ⟨N + 1, 3, none⟩ (.int .i64 t.idx)).setCell ⟨N + 1, 4, none⟩ (.slice va qn vc)) = W5 at *
        have g0 : W5.cell? ⟨N + 1, 0, none⟩ = some (.int .i64 t.kind) := c5.cell 0
        have g1 : W5.cell? ⟨N + 1, 1, none⟩ = some (.slice ua un uc) := c5.cell 1
        have g2 : W5.cell? ⟨N + 1, 2, none⟩ = some (.int .i64 t.ty.base) := c5.cell 2
        have g3 : W5.cell? ⟨N + 1, 3, none⟩ = some (.int .i64 t.idx) := c5.cell 3
        have g4 : W5.cell? ⟨N + 1, 4, none⟩ = some (.slice va qn vc) := c5.cell 4
        exact bodyPost_ret (v := rwv t.kind (.slice ua un uc) t.ty.base t.idx (.slice va qn vc)) (by simp [results, Try.results73, go_sem, g0, g1, g2, g3, g4]) rfl ⟨outs, HLR.out, ⟨_, _, rfl, h5, h6, hO⟩, HP5⟩

end Go.Proofs.Ytckagmagjogmnaa
