/-
  SubstR: several texts in one file: RemakeT, Turn, SubstR.
-/
import Derived.Test.YtckagmagjogmnaaRemake
import Derived.Test.YtckagmagjogmnaaMade
import Derived.Test.YtckagmagjogmnaaLooseR
namespace Go.Proofs.Ytckagmagjogmnaa
open Go Go.RowKit

set_option maxRecDepth 100000 in
set_option maxHeartbeats 3200000 in
theorem remakeT_calls (t : Rw) (ok : Nat → Prop) (sb sl : Value) (p1 p2 : Value) (w : World) (S : List Nat) (P : List Rw → World → Prop) (hb : Holds w ok t.ty.args sb) (ha : HoldsR w ok t.kids sl) (hok : ∀ b, ok b → b ∉ S) (hS : ∀ b ∈ S, b < w.heap.size) (hsz : t.ty.size ≤ 1000000) (hkl : t.kids.length ≤ 1000000) (hP0 : P [] w) (hPs : Stays w P) (hF : MapsR 106 #[p1, p2] w S P t.kids) :
    Calls Try.prog 73 #[rwv t.kind sb t.ty.base t.idx sl, .func (.func 106) #[] #[p1, p2]] w (Remade S P t.kids.length t w) := by
  have HI : Hid _ := hF
  have HPS : Hid _ := hPs
  obtain ⟨ts, hts⟩ : ∃ ts, t.kids = ts := ⟨_, rfl⟩
  rw [hts] at ha HI hkl ⊢
  have hb' : Holds w (fun b => b < w.heap.size ∧ b ∉ S) t.ty.args sb := hb.mono fun b h1 h2 => ⟨h1, hok b h2⟩
  have ha' : HoldsR w (fun b => b < w.heap.size ∧ b ∉ S) ts sl := ha.mono fun b h1 h2 => ⟨h1, hok b h2⟩
  obtain ⟨x1, x2, rfl, _⟩ := hb.shape
  obtain ⟨x3, x4, rfl, _⟩ := ha.shape
  obtain ⟨bn, hbn⟩ : ∃ n, t.ty.args.length = n := ⟨_, rfl⟩
  obtain ⟨ln, hll⟩ : ∃ n, ts.length = n := ⟨_, rfl⟩
  rw [hbn] at hb' ⊢
  rw [hll] at ha' hkl ⊢
  obtain ⟨N, hN⟩ : ∃ N, w.heap.size = N := ⟨_, rfl⟩
  have HN : Hid (w.heap.size = N) := hN
  rw [hN] at hb' ha' hS
  obtain ⟨W0, hW0⟩ : ∃ W0, (w.alloc (.cells #[.int .i64 t.kind, .slice x1 bn x2, .int .i64 t.ty.base, .int .i64 t.idx, .slice x3 ln x4] 35)).alloc (.cells #[.int .i64 0, .slice none 0 0, .int .i64 0, .int .i64 0, .slice none 0 0] 35) = W0 := ⟨_, rfl⟩
  have b0 : Blk W0 N 35 #[.int .i64 t.kind, .slice x1 bn x2, .int .i64 t.ty.base, .int .i64 t.idx, .slice x3 ln x4] := by rw [← hW0]; exact (Blk.new' w N 35 _ hN).alloc _
  have b1 : Blk W0 (N + 1) 35 #[.int .i64 0, .slice none 0 0, .int .i64 0, .int .i64 0, .slice none 0 0] := by rw [← hW0]; exact Blk.new' _ (N + 1) 35 _ (by simp [hN])
  have hz0 : W0.heap.size = N + 2 := by rw [← hW0]; simp [hN]
  have bl0 : Below N w W0 := by rw [← hW0]; exact ((Below.refl N w).alloc (by omega) _).alloc (by simp; omega) _
  have ha0 : HoldsR W0 (fun b => b < N ∧ b ∉ S) ts (.slice x3 ln x4) := ha'.bel (by rw [hN]; exact bl0)
  have hcl := CloneR_calls ts _ _ W0 ha0 (by omega)
  rw [hz0] at hcl
  have HW : Hid _ := hW0
  have HT : Hid (ts.length = ln) := hll
  have HA : Hid _ := ha'
  have HB : Hid _ := hb'
  have c4 := b0.cell 4
  have hty := hsz
  have hln2 := hkl
  clear hsz hkl
  have HP0 : Hid (P [] W0) := HPS.out _ _ _ hP0 (by rw [hN]; exact bl0)
  clear hW0 hb ha hb' ha' hF hPs hts hbn hll hP0
  go_enter Try.func73, Try.ntmps73
  go_upto_region 1 with fail
  rw [HW.out]
  clear HW
  go_wp2_with fail
  refine hcl.mono ?_
  rintro e w1 ⟨v1, qs, rfl, hrow, hqs, hkid, hb1⟩
  obtain ⟨va, vc, rfl⟩ := row_shape hrow
  have HQ : Hid (qs.map (·.t) = ts) := hqs
  have hqn : qs.length = ln := by rw [← HT.out, ← HQ.out, List.length_map]
  have hql : qs.length ≤ 1000000 := by omega
  have e0 := b0.below hb1 (by omega)
  have e1 := b1.below hb1 (by omega)
  have hon : Only S w w1 := (Only.of_below' (by rw [hN]; exact bl0)).trans ((Only.of_below' (by rw [hz0]; exact hb1)))
  have HP1 : Hid (P [] w1) := HPS.out _ _ _ HP0.out (by rw [HN.out]; exact hb1.mono (by omega))
  have hk0 : Hid (∀ p ∈ qs, Holds w (fun b => b < N ∧ b ∉ S) p.t.ty.args p.sb ∧ HoldsR w (fun b => b < N ∧ b ∉ S) p.t.kids p.sr) := fun p hp => by
    have h := hkid p hp
    have hback : ∀ b, b < W0.heap.size → (b < N ∧ b ∉ S) → w.heap[b]? = W0.heap[b]? ∧ (b < N ∧ b ∉ S) := fun b _ ho => ⟨(bl0.block b ho.1).symm, ho⟩
    exact ⟨h.1.keep hback, h.2.keep hback⟩
  have HQN : Hid (qs.length = ln) := hqn
  clear hqs hqn hkid hcl c4 b0 b1 bl0 ha0 hb1 hln2 HP0
  go_wp2_with fail
  go_loopw [13] (fun i wr => ∃ (k : Nat) (rs : List Rc), k ≤ qs.length ∧ i = .int .i64 k ∧ Hid (rs.length = k) ∧ Hid (P (rs.map (·.t)) wr) ∧ wr.ownsRow (N + 2) 35 5 (.slice va qs.length vc) qs.length (rcells (rs ++ qs.drop k)) ∧ (∀ p ∈ rs, Holds wr (fun b => N + 2 ≤ b ∧ (Value.slice va qs.length vc).ownBlock ≠ some b) p.t.ty.args p.sb ∧ HoldsR wr (fun b => N + 2 ≤ b ∧ (Value.slice va qs.length vc).ownBlock ≠ some b) p.t.kids p.sr) ∧ Blk wr N 35 #[.int .i64 t.kind, .slice x1 bn x2, .int .i64 t.ty.base, .int .i64 t.idx, .slice x3 ln x4] ∧ Blk wr (N + 1) 35 #[.int .i64 0, .slice none 0 0, .int .i64 0, .int .i64 0, .slice none 0 0] ∧ N + 2 ≤ wr.heap.size ∧ Only S w wr)
    (fun i _ => qs.length - (intOf i).toNat)
  case atStart => exact ⟨0, [], Nat.zero_le _, rfl, rfl, HP1.out, by simpa using hrow, (fun p hp => by cases hp), e0, e1, by have := e1.lt; omega, hon⟩
  case round =>
    clear hrow e0 e1 hon HP1
    obtain ⟨k, rs, hk, rfl, HR, HPk, hrow, hkid, hB0, hB1, hNw, hbl⟩ := hrel
    by_cases hlt : k < qs.length
    · obtain ⟨p, hp⟩ : ∃ p, qs[k]? = some p := ⟨_, List.getElem?_eq_getElem hlt⟩
      obtain ⟨g, vc', e1, hNg, hgl⟩ := hrow.form (by omega)
      cases e1
      have hdr : qs.drop k = p :: qs.drop (k + 1) := by
        obtain ⟨hl, he⟩ := List.getElem?_eq_some_iff.1 hp
        rw [List.drop_eq_getElem_cons hl, he]
      rw [hdr] at hrow
      have hc := World.ownsRow.cellAt hrow
      have hg0 := rcells_get (rs ++ p :: qs.drop (k + 1)) k p (by rw [← HR.out, List.getElem?_append_right (Nat.le_refl _)]; simp)
      have c0 : wr.cell? ⟨g, k * 5, none⟩ = some (.int .i64 p.t.kind) := (hc _ (by omega)).trans hg0.1
      have c1 : wr.cell? ⟨g, k * 5 + 1, none⟩ = some p.sb := (hc _ (by omega)).trans hg0.2.1
      have c2 : wr.cell? ⟨g, k * 5 + 2, none⟩ = some (.int .i64 p.t.ty.base) := (hc _ (by omega)).trans hg0.2.2.1
      have c3 : wr.cell? ⟨g, k * 5 + 3, none⟩ = some (.int .i64 p.t.idx) := (hc _ (by omega)).trans hg0.2.2.2.1
      have c4 : wr.cell? ⟨g, k * 5 + 4, none⟩ = some p.sr := (hc _ (by omega)).trans hg0.2.2.2.2
      have hpm := List.mem_of_getElem? hp
      have hkeep : ∀ b, b < w.heap.size → (b < N ∧ b ∉ S) → wr.heap[b]? = w.heap[b]? ∧ (b < N ∧ b ∉ S) := fun b h1 h2 => ⟨hbl.block b h1 h2.2, h2⟩
      have hpB : Holds wr (fun b => b < N ∧ b ∉ S) p.t.ty.args p.sb := (hk0.out p hpm).1.keep hkeep
      have hpH : HoldsR wr (fun b => b < N ∧ b ∉ S) p.t.kids p.sr := (hk0.out p hpm).2.keep hkeep
      have hpc := HI.out (rs.map (·.t)) p.t (fun b => b < N ∧ b ∉ S) p.sb p.sr (wr.alloc (.cells #[.int .i64 p.t.kind, p.sb, .int .i64 p.t.ty.base, .int .i64 p.t.idx, p.sr] 35)) (by rw [List.length_map, HR.out, ← HQ.out, List.getElem?_map, hp]; rfl) (HPS.out _ _ _ HPk.out ((Below.refl _ _).alloc (by rw [HN.out]; omega) _)) (hbl.alloc _) (hpB.alloc _) (hpH.alloc _) (fun b h => by rw [HN.out]; exact h)
      obtain ⟨sa, sc, hps, _⟩ := hpB.shape
      obtain ⟨sd, se, hpr, _⟩ := hpH.shape
      have y1 : (0 : Int) ≤ (k : Int) := by omega
      have y2 : (k : Int) < (qs.length : Int) := by omega
      have hrow1 := hrow.alloc (.cells #[.int .i64 p.t.kind, p.sb, .int .i64 p.t.ty.base, .int .i64 p.t.idx, p.sr] 35)
      have hb1 : Below wr.heap.size wr (wr.alloc (.cells #[.int .i64 p.t.kind, p.sb, .int .i64 p.t.ty.base, .int .i64 p.t.idx, p.sr] 35)) := (Below.refl _ _).alloc (Nat.le_refl _) _
      have hbl1 := hbl.alloc (.cells #[.int .i64 p.t.kind, p.sb, .int .i64 p.t.ty.base, .int .i64 p.t.idx, p.sr] 35)
      have hB01 := hB0.alloc (.cells #[.int .i64 p.t.kind, p.sb, .int .i64 p.t.ty.base, .int .i64 p.t.idx, p.sr] 35)
      have hB11 := hB1.alloc (.cells #[.int .i64 p.t.kind, p.sb, .int .i64 p.t.ty.base, .int .i64 p.t.idx, p.sr] 35)
      rw [hps] at c1
      rw [hpr] at c4
      rw [hps, hpr] at hpc hrow1 hb1 hbl1 hB01 hB11
      clear hp hdr hg0 hc hpH hpB
      have d0 := (cat hb1 hgl).trans c0
      have d1 := (cat hb1 hgl).trans c1
      have d2 := (cat hb1 hgl).trans c2
      have d3 := (cat hb1 hgl).trans c3
      have d4 := (cat hb1 hgl).trans c4
      have hgl1 := Nat.lt_of_lt_of_le hgl hb1.size
      have hgS : g ∉ S := fun h => by have := hS g h; omega
      have hNS : N ∉ S := fun h => by have := hS N h; omega
      have hN1S : N + 1 ∉ S := fun h => by have := hS (N + 1) h; omega
      go_wp2_with (go_at_call 106; refine hpc.mono ?_; rintro e w2 ⟨v, ⟨vb2, vr2, rfl, hvb2, hvr2, hb2⟩, hPv⟩; obtain ⟨ta, tc, rfl, _⟩ := hvb2.shape; obtain ⟨td, te, rfl, _⟩ := hvr2.shape; have e0 := (hb2.cell (p := ⟨g, k * 5, none⟩) hgl1 hgS).trans d0; have e1 := (hb2.cell (p := ⟨g, k * 5 + 1, none⟩) hgl1 hgS).trans d1; have e2 := (hb2.cell (p := ⟨g, k * 5 + 2, none⟩) hgl1 hgS).trans d2; have e3 := (hb2.cell (p := ⟨g, k * 5 + 3, none⟩) hgl1 hgS).trans d3; have e4 := (hb2.cell (p := ⟨g, k * 5 + 4, none⟩) hgl1 hgS).trans d4; have hrow2 := row_only hrow1 hb2 hgl1 hgS; have f0 := row_frozen hrow2 (k * 5); have f1 := row_frozen hrow2 (k * 5 + 1); have f2 := row_frozen hrow2 (k * 5 + 2); have f3 := row_frozen hrow2 (k * 5 + 3); have f4 := row_frozen hrow2 (k * 5 + 4))
      generalize v.ty.args.length = un at *
      generalize v.kids.length = um at *
      have hB2 : Only S w w2 := hbl1.trans hb2
      obtain ⟨W3, hW3⟩ : ∃ W3, ((((w2.setCell ⟨g, k * 5, none⟩ (.int .i64 v.kind)).setCell ⟨g, k * 5 + 1, none⟩ (.slice ta un tc)).setCell ⟨g, k * 5 + 2, none⟩ (.int .i64 v.ty.base)).setCell ⟨g, k * 5 + 3, none⟩ (.int .i64 v.idx)).setCell ⟨g, k * 5 + 4, none⟩ (.slice td um te) = W3 := ⟨_, rfl⟩
      have hg9 : w.heap.size ≤ g := by rw [HN.out]; omega
      have hB3 : Only S w W3 := by rw [← hW3]; exact ((((hB2.setNew hg9 _ _).setNew hg9 _ _).setNew hg9 _ _).setNew hg9 _ _).setNew hg9 _ _
      have hBb : Below N w2 W3 := by rw [← hW3]; exact bset (bset (bset (bset (bset (Below.refl _ _) (by omega) _) (by omega) _) (by omega) _) (by omega) _) (by omega) _
      have hrow3 := row_set (row_set (row_set (row_set (row_set hrow2 (k * 5) (.int .i64 v.kind)) (k * 5 + 1) (.slice ta un tc)) (k * 5 + 2) (.int .i64 v.ty.base)) (k * 5 + 3) (.int .i64 v.idx)) (k * 5 + 4) (.slice td um te)
      have hk2 : Hid ((((((rcells (rs ++ p :: qs.drop (k + 1))).set (k * 5) (.int .i64 v.kind)).set (k * 5 + 1) (.slice ta un tc)).set (k * 5 + 2) (.int .i64 v.ty.base)).set (k * 5 + 3) (.int .i64 v.idx)).set (k * 5 + 4) (.slice td um te) = rcells ((rs ++ [(⟨.slice ta un tc, .slice td um te, v⟩ : Rc)]) ++ qs.drop (k + 1))) := by
        show _ = _
        have h9 := rcells_set rs p (qs.drop (k + 1)) ⟨.slice ta un tc, .slice td um te, v⟩
        rw [HR.out] at h9
        rw [h9, List.append_assoc]
        rfl
      rw [hk2.out, hW3] at hrow3
      have hok2 : ∀ b, b < w2.heap.size → wr.heap.size + 1 ≤ b → b ≠ g ∧ N + 2 ≤ b ∧ (Value.slice (some ⟨g, 0, none⟩) qs.length vc).ownBlock ≠ some b := fun b _ ho => by
        have hbg : b ≠ g := by omega
        exact ⟨hbg, by omega, fun e => hbg (by cases e; rfl)⟩
      have hold : ∀ b, b < wr.heap.size → (N + 2 ≤ b ∧ (Value.slice (some ⟨g, 0, none⟩) qs.length vc).ownBlock ≠ some b) → w2.heap[b]? = wr.heap[b]? ∧ (N + 2 ≤ b ∧ (Value.slice (some ⟨g, 0, none⟩) qs.length vc).ownBlock ≠ some b) := fun b h1 h2 => ⟨(hb2.block b (by have := hb1.size; omega) (fun h => by have := hS b h; omega)).trans (hb1.block b h1), h2⟩
      have hkid2 : ∀ q ∈ rs ++ [(⟨.slice ta un tc, .slice td um te, v⟩ : Rc)], Holds W3 (fun b => N + 2 ≤ b ∧ (Value.slice (some ⟨g, 0, none⟩) qs.length vc).ownBlock ≠ some b) q.t.ty.args q.sb ∧ HoldsR W3 (fun b => N + 2 ≤ b ∧ (Value.slice (some ⟨g, 0, none⟩) qs.length vc).ownBlock ≠ some b) q.t.kids q.sr := by
        intro q hq
        rw [← hW3]
        rcases List.mem_append.1 hq with hq | hq
        · exact ⟨holds_set5' ((hkid q hq).1.keep hold) (fun b _ ho => ⟨fun e => ho.2 (by rw [e]; rfl), ho⟩) _ _ _ _ _ _ _ _ _ _, holdsR_set5' ((hkid q hq).2.keep hold) (fun b _ ho => ⟨fun e => ho.2 (by rw [e]; rfl), ho⟩) _ _ _ _ _ _ _ _ _ _⟩
        · rw [List.mem_singleton.1 hq]
          exact ⟨holds_set5' hvb2 (fun b hb ho => hok2 b hb (by simpa using ho)) _ _ _ _ _ _ _ _ _ _, holdsR_set5' hvr2 (fun b hb ho => hok2 b hb (by simpa using ho)) _ _ _ _ _ _ _ _ _ _⟩
      have HP9 : Hid (P ((rs ++ [(⟨.slice ta un tc, .slice td um te, v⟩ : Rc)]).map (·.t)) W3) := by show P _ _; rw [List.map_append]; exact HPS.out _ _ _ hPv (by rw [HN.out]; exact hBb)
      have k0 : Blk W3 N 35 _ := (hB01.only hb2 hNS).below (n := N + 1) (by rw [← hW3]; exact bset (bset (bset (bset (bset (Below.refl _ _) (by omega) _) (by omega) _) (by omega) _) (by omega) _) (by omega) _) (by omega)
      have k1 : Blk W3 (N + 1) 35 _ := (hB11.only hb2 hN1S).below (n := N + 2) (by rw [← hW3]; exact bset (bset (bset (bset (bset (Below.refl _ _) (by omega) _) (by omega) _) (by omega) _) (by omega) _) (by omega) _) (by omega)
      clear hrow hrow1 hrow2 hkid hbl hb2 hB2 hvb2 hvr2 hb1 hpc c0 c1 c2 c3 c4 d0 d1 d2 d3 d4 e0 e1 e2 e3 e4 f0 f1 f2 f3 f4 hk2 hok2 hbl1 hB01 hB11 hB0 hB1 hold hBb hPv
      rw [hW3]
      clear hW3
      go_roundw
      case rel => exact ⟨k + 1, rs ++ [⟨.slice ta un tc, .slice td um te, v⟩], by omega, by go_num, by show _ = _; rw [List.length_append, HR.out]; rfl, HP9, hrow3, hkid2, k0, k1, by have := k1.lt; omega, hB3⟩
      case measure => simp [intOf]; omega
    · obtain rfl : k = qs.length := by omega
      rw [List.drop_length, List.append_nil] at hrow
      have hRS : HoldsR wr (fun b => N + 2 ≤ b) (rs.map (·.t)) (.slice va qs.length vc) := holdsR_of_row (M := N + 2) (e := 35) (by rw [HR.out]; exact hrow) (fun p hp => (hkid p hp).1.mono fun b _ h => h.1) (fun p hp => (hkid p hp).2.mono fun b _ h => h.1) (fun b h => h)
      have HLR : Hid ((rs.map (·.t)).length = ln) := by show _ = _; rw [List.length_map, HR.out, HQN.out]
      have hTY : Holds wr (fun b => b < N ∧ b ∉ S) t.ty.args (.slice x1 bn x2) := HB.out.keep fun b h1 h2 => ⟨hbl.block b h1 h2.2, h2⟩
      generalize rs.map (·.t) = outs at *
      generalize qs.length = qn at *
      clear hrow hkid HR hlt HI hk0 HQ hk HQN HA HT
      obtain ⟨M, hM⟩ : ∃ M, wr.heap.size = M := ⟨_, rfl⟩
      have q0 := hB0.cell 0
      have q1 := hB0.cell 1
      have q2 := hB0.cell 2
      have q3 := hB0.cell 3
      have hK : ∀ v, Cur wr v → v.cell? ⟨N, 0, none⟩ = some (.int .i64 t.kind) ∧ v.cell? ⟨N, 1, none⟩ = some (.slice x1 bn x2) ∧ v.cell? ⟨N, 2, none⟩ = some (.int .i64 t.ty.base) ∧ v.cell? ⟨N, 3, none⟩ = some (.int .i64 t.idx) := fun v hv => ⟨hv.cell q0, hv.cell q1, hv.cell q2, hv.cell q3⟩
      have kft : ∀ cur, Cur wr cur → Calls Try.prog 72 #[tv (.slice x1 bn x2) t.ty.base] cur fun e w' => ∃ v, e = .returned (tv v t.ty.base) ∧ Holds w' (fun b => cur.heap.size ≤ b) t.ty.args v ∧ Below cur.heap.size cur w' ∧ Cur wr w' := fun cur hc =>
        (freshType_calls t.ty _ _ cur (hc.holds hTY) hty).mono fun e w' ⟨v, h1, h2, h3⟩ => ⟨v, h1, h2, h3, hc.then h3⟩
      have hcur := Cur.refl wr
      go_wp2_with fail
      go_region_held3 (fun v => v.cell? ⟨N, 0, none⟩ = some (.int .i64 t.kind) ∧ v.cell? ⟨N, 1, none⟩ = some (.slice x1 bn x2) ∧ v.cell? ⟨N, 2, none⟩ = some (.int .i64 t.ty.base) ∧ v.cell? ⟨N, 3, none⟩ = some (.int .i64 t.idx))
        (first | with_reducible exact hK _ (by first | with_reducible assumption | (with_reducible refine Cur.drew ?_; assumption)) | with_reducible exact cells_set5 _ _ _ _ _ (hK _ (by first | with_reducible assumption | (with_reducible refine Cur.drew ?_; assumption))))
        (first | (go_at_call 72; refine (kft _ (by first | with_reducible assumption | (with_reducible refine Cur.drew ?_; assumption))).mono ?_; rintro e y9 ⟨v9, rfl, hv9, hb9, hc9⟩; obtain ⟨ua, uc, rfl, _⟩ := hv9.shape; have m9 := hB1.below (show Below wr.heap.size wr y9 from hc9) hB1.lt; have r0 := m9.cell 0; have r1 := m9.cell 1; have r2 := m9.cell 2; have r3 := m9.cell 3; have r4 := m9.cell 4; have f0 := m9.frozen 0; have f1 := m9.frozen 1; have f2 := m9.frozen 2; have f3 := m9.frozen 3; have f4 := m9.frozen 4))
      all_goals
        generalize t.ty.args.length = un at *
        have hc9' : Below M wr y9 := by rw [← hM]; exact hc9
        have hn9 : N + 2 ≤ M := by omega
        have hwr9 : wr.heap.size = M := hM
        have h5 := holds_set5 (g := N + 1) (ok' := fun b => w.heap.size ≤ b) hv9 (fun b _ h => ⟨by have h8 : wr.drew.heap.size = M := hM; omega, by have h8 : wr.drew.heap.size = M := hM; rw [HN.out]; omega⟩) (.int .i64 t.kind) (.slice ua un uc) (.int .i64 t.ty.base) (.int .i64 t.idx) (.slice va qn vc)
        have h6 := holdsR_set5 (g := N + 1) (ok' := fun b => w.heap.size ≤ b) (hRS.bel (show Below wr.heap.size wr y9 from hc9)) (fun b _ h => ⟨by omega, by rw [HN.out]; omega⟩) (.int .i64 t.kind) (.slice ua un uc) (.int .i64 t.ty.base) (.int .i64 t.idx) (.slice va qn vc)
        have c5 := ((((m9.set 0 (.int .i64 t.kind)).set 1 (.slice ua un uc)).set 2 (.int .i64 t.ty.base)).set 3 (.int .i64 t.idx)).set 4 (.slice va qn vc)
        have hg9 : w.heap.size ≤ N + 1 := by rw [HN.out]; omega
        have hO := (((((hbl.trans (Only.of_below' (show Below wr.heap.size wr y9 from hc9))).setNew hg9 0 (.int .i64 t.kind)).setNew hg9 1 (.slice ua un uc)).setNew hg9 2 (.int .i64 t.ty.base)).setNew hg9 3 (.int .i64 t.idx)).setNew hg9 4 (.slice va qn vc)
        have HP5 := HPS.out _ _ _ HPk.out (show Below w.heap.size wr (((((y9.setCell ⟨N + 1, 0, none⟩ (.int .i64 t.kind)).setCell ⟨N + 1, 1, none⟩ (.slice ua un uc)).setCell ⟨N + 1, 2, none⟩ (.int .i64 t.ty.base)).setCell ⟨N + 1, 3, none⟩ (.int .i64 t.idx)).setCell ⟨N + 1, 4, none⟩ (.slice va qn vc)) by rw [HN.out]; exact bset (bset (bset (bset (bset (hc9'.mono (by omega)) (by omega) _) (by omega) _) (by omega) _) (by omega) _) (by omega) _)
        go_wp2
        generalize (((((y9.setCell ⟨N + 1, 0, none⟩ (.int .i64 t.kind)).setCell ⟨N + 1, 1, none⟩ (.slice ua un uc)).setCell ⟨N + 1, 2, none⟩ (.int .i64 t.ty.base)).setCell ⟨N + 1, 3, none⟩ (.int .i64 t.idx)).setCell ⟨N + 1, 4, none⟩ (.slice va qn vc)) = W5 at *
        have g0 : W5.cell? ⟨N + 1, 0, none⟩ = some (.int .i64 t.kind) := c5.cell 0
        have g1 : W5.cell? ⟨N + 1, 1, none⟩ = some (.slice ua un uc) := c5.cell 1
        have g2 : W5.cell? ⟨N + 1, 2, none⟩ = some (.int .i64 t.ty.base) := c5.cell 2
        have g3 : W5.cell? ⟨N + 1, 3, none⟩ = some (.int .i64 t.idx) := c5.cell 3
        have g4 : W5.cell? ⟨N + 1, 4, none⟩ = some (.slice va qn vc) := c5.cell 4
        exact bodyPost_ret (v := rwv t.kind (.slice ua un uc) t.ty.base t.idx (.slice va qn vc)) (by simp [results, Try.results73, go_sem, g0, g1, g2, g3, g4]) rfl ⟨outs, HLR.out, ⟨_, _, rfl, h5, h6, hO⟩, HP5⟩

end Go.Proofs.Ytckagmagjogmnaa

namespace Go.Proofs.Ytckagmagjogmnaa
open Go Go.RowKit

theorem holds_other {w : World} {N g : Nat} {ts : List Ty} {v : Value} (h : Holds w (fun b => b < N) ts v) (hg : N ≤ g) (i : Nat) (x : Value) : Holds (w.setCell ⟨g, i, none⟩ x) (fun b => b < N) ts v :=
  h.keep fun b _ ho => ⟨Below.heap_setCell w ⟨g, i, none⟩ x b (show b ≠ g by omega), ho⟩
theorem holdsR_other {w : World} {N g : Nat} {ts : List Rw} {v : Value} (h : HoldsR w (fun b => b < N) ts v) (hg : N ≤ g) (i : Nat) (x : Value) : HoldsR (w.setCell ⟨g, i, none⟩ x) (fun b => b < N) ts v :=
  h.keep fun b _ ho => ⟨Below.heap_setCell w ⟨g, i, none⟩ x b (show b ≠ g by omega), ho⟩
mutual
/-- a raw term turned, within so many binders -/
def Rw.turn (g : Int → Nat → Rw) (b : Nat) : Rw → Rw
  | .mk k t i l => if k = 0 then g i b else .mk k t i (turnL g (inR k b) l)
def turnL (g : Int → Nat → Rw) (b : Nat) : List Rw → List Rw
  | [] => []
  | t :: r => t.turn g b :: turnL g b r
end
theorem Rw.turn_eq (g : Int → Nat → Rw) (b : Nat) (t : Rw) : t.turn g b = if t.kind = 0 then g t.idx b else .mk t.kind t.ty t.idx (turnL g (inR t.kind b) t.kids) := by cases t; rfl
theorem turnL_map (g : Int → Nat → Rw) (b : Nat) (l : List Rw) : turnL g b l = l.map (Rw.turn g b) := by
  induction l with
  | nil => rfl
  | cons t r ih => simp [turnL, ih]
theorem inR_le (k : Int) (b : Nat) : inR k b ≤ b + 1 := by unfold inR; split <;> omega
/-- What is called of an index within so many binders. -/
def GAt (f : Nat) (caps : Array Value) (W : World) (g : Int → Nat → Rw) : Prop := ∀ (i : Int) (b : Nat) (cur : World), Only [] W cur → b ≤ 2000000 → Calls Try.prog f (#[.int .i64 i, .int .i64 (b : Int)] ++ caps) cur (Made [] cur (g i b))
/-- turn's own word of one raw term -/
def TurnAt (f : Nat) (caps : Array Value) (W : World) (g : Int → Nat → Rw) (u : Rw) : Prop := ∀ (b : Nat) (ok : Nat → Prop) (sb sr : Value) (cur : World), Only [] W cur → b + u.size ≤ 2000000 → Holds cur ok u.ty.args sb → HoldsR cur ok u.kids sr →
    Calls Try.prog 96 #[rwv u.kind sb u.ty.base u.idx sr, .int .i64 (b : Int), .func (.func f) #[] caps] cur (Made [] cur (u.turn g b))

set_option maxRecDepth 100000 in
set_option maxHeartbeats 1600000 in
theorem turn1_calls (f : Nat) (caps : Array Value) (W : World) (g : Int → Nat → Rw) (u : Rw) (hI : TurnAt f caps W g u) (b A B : Nat) (ok : Nat → Prop) (sb sr : Value) (w : World) (hW : Only [] W w) (hbu : b + u.size ≤ 2000000) (h1 : Blk w A 3 #[.int .i64 (b : Int)]) (h2 : Blk w B 51 #[.func (.func f) #[] caps]) (hb : Holds w ok u.ty.args sb) (ha : HoldsR w ok u.kids sr) :
    Calls Try.prog 106 #[rwv u.kind sb u.ty.base u.idx sr, .pointer (some ⟨A, 0, none⟩), .pointer (some ⟨B, 0, none⟩)] w (Made [] w (u.turn g b)) := by
  obtain ⟨x1, x2, hx, _⟩ := hb.shape
  obtain ⟨x3, x4, hx', _⟩ := ha.shape
  obtain ⟨N, hN⟩ : ∃ N, w.heap.size = N := ⟨_, rfl⟩
  generalize u.ty.args.length = n1 at hx
  generalize u.kids.length = n2 at hx'
  subst hx hx'
  obtain ⟨W0, hW0⟩ : ∃ W0, (w.alloc (.cells #[.int .i64 u.kind, .slice x1 n1 x2, .int .i64 u.ty.base, .int .i64 u.idx, .slice x3 n2 x4] 35)).alloc (.cells #[.int .i64 0, .slice none 0 0, .int .i64 0, .int .i64 0, .slice none 0 0] 35) = W0 := ⟨_, rfl⟩
  have b0 : Blk W0 N 35 #[.int .i64 u.kind, .slice x1 n1 x2, .int .i64 u.ty.base, .int .i64 u.idx, .slice x3 n2 x4] := by rw [← hW0]; exact (Blk.new' w N 35 _ hN).alloc _
  have b1 : Blk W0 (N + 1) 35 #[.int .i64 0, .slice none 0 0, .int .i64 0, .int .i64 0, .slice none 0 0] := by rw [← hW0]; exact Blk.new' _ (N + 1) 35 _ (by simp [hN])
  have bl : Below N w W0 := by rw [← hW0]; exact ((Below.refl N w).alloc (by omega) _).alloc (by simp; omega) _
  have hO0 : Only [] w W0 := Only.of_below' (by rw [hN]; exact bl)
  have hcall := hI b ok _ _ W0 (hW.trans hO0) hbu (hb.bel (hN ▸ bl)) (ha.bel (hN ▸ bl))
  have c0 := b0.cell 0
  have c1 := b0.cell 1
  have c2 := b0.cell 2
  have c3 := b0.cell 3
  have c4 := b0.cell 4
  have p1 := (h1.only hO0 (by simp)).cell 0
  have p2 := (h2.only hO0 (by simp)).cell 0
  have hz : W0.heap.size = N + 2 := by rw [← hW0]; simp [hN]
  have HW : Hid _ := hW0
  obtain ⟨v, hv⟩ : ∃ v, u.turn g b = v := ⟨_, rfl⟩
  rw [hv] at hcall ⊢
  clear hW0 hb ha h1 h2 hv hI
  go_enter Try.func106, Try.ntmps106
  go_upto_region 1 with fail
  rw [HW.out]
  clear HW
  go_wp2_with fail
  refine hcall.mono ?_
  rintro e w1 ⟨vb, vr, rfl, hvb, hvr, hO1⟩
  obtain ⟨u1, u2, rfl, _⟩ := hvb.shape
  obtain ⟨u3, u4, rfl, _⟩ := hvr.shape
  generalize v.ty.args.length = m1 at *
  generalize v.kids.length = m2 at *
  have m9 := b1.only hO1 (by simp)
  have hO2 : Only [] w w1 := hO0.trans hO1
  have hg9 : w.heap.size ≤ N + 1 := by omega
  clear hcall c0 c1 c2 c3 c4 p1 p2
  have e0 := m9.cell 0
  have e1 := m9.cell 1
  have e2 := m9.cell 2
  have e3 := m9.cell 3
  have e4 := m9.cell 4
  have f0 := m9.frozen 0
  have f1 := m9.frozen 1
  have f2 := m9.frozen 2
  have f3 := m9.frozen 3
  have f4 := m9.frozen 4
  have h5 := holds_set5 (g := N + 1) (ok' := fun b => w.heap.size ≤ b) hvb (fun b _ h => ⟨by omega, by omega⟩) (.int .i64 v.kind) (.slice u1 m1 u2) (.int .i64 v.ty.base) (.int .i64 v.idx) (.slice u3 m2 u4)
  have h6 := holdsR_set5 (g := N + 1) (ok' := fun b => w.heap.size ≤ b) hvr (fun b _ h => ⟨by omega, by omega⟩) (.int .i64 v.kind) (.slice u1 m1 u2) (.int .i64 v.ty.base) (.int .i64 v.idx) (.slice u3 m2 u4)
  have b5 := (((((m9.set 0 (.int .i64 v.kind)).set 1 (.slice u1 m1 u2)).set 2 (.int .i64 v.ty.base)).set 3 (.int .i64 v.idx)).set 4 (.slice u3 m2 u4))
  have hO5 := (((((hO2.setNew hg9 0 (.int .i64 v.kind)).setNew hg9 1 (.slice u1 m1 u2)).setNew hg9 2 (.int .i64 v.ty.base)).setNew hg9 3 (.int .i64 v.idx)).setNew hg9 4 (.slice u3 m2 u4))
  go_wp2
  generalize (((((w1.setCell ⟨N + 1, 0, none⟩ (.int .i64 v.kind)).setCell ⟨N + 1, 1, none⟩ (.slice u1 m1 u2)).setCell ⟨N + 1, 2, none⟩ (.int .i64 v.ty.base)).setCell ⟨N + 1, 3, none⟩ (.int .i64 v.idx)).setCell ⟨N + 1, 4, none⟩ (.slice u3 m2 u4)) = W5 at *
  have g0 : W5.cell? ⟨N + 1, 0, none⟩ = some (.int .i64 v.kind) := b5.cell 0
  have g1 : W5.cell? ⟨N + 1, 1, none⟩ = some (.slice u1 m1 u2) := b5.cell 1
  have g2 : W5.cell? ⟨N + 1, 2, none⟩ = some (.int .i64 v.ty.base) := b5.cell 2
  have g3 : W5.cell? ⟨N + 1, 3, none⟩ = some (.int .i64 v.idx) := b5.cell 3
  have g4 : W5.cell? ⟨N + 1, 4, none⟩ = some (.slice u3 m2 u4) := b5.cell 4
  exact bodyPost_ret (v := rwv v.kind (.slice u1 m1 u2) v.ty.base v.idx (.slice u3 m2 u4)) (by simp [results, Try.results106, go_sem, g0, g1, g2, g3, g4]) rfl ⟨_, _, rfl, h5, h6, hO5⟩

set_option maxRecDepth 100000 in
set_option maxHeartbeats 3200000 in
theorem turn107_calls (caps1 : Value) (W : World) (g : Int → Nat → Rw) (hG : GAt 107 #[caps1] W g) (t : Rw) : t.fit → TurnAt 107 #[caps1] W g t := by
  induction t using Rw.ind with
  | h t ih =>
  intro hfit b ok sb sr w hWw hbs hb ha
  rw [t.fit_eq, fitR_iff] at hfit
  obtain ⟨hf1, hf2, hf3⟩ := hfit
  have hIH : Hid (∀ u ∈ t.kids, TurnAt 107 #[caps1] W g u) := fun u hu => ih u hu (hf3 u hu)
  have hte := t.turn_eq g b
  have hsz := t.size_eq
  have HSZ : Hid (∀ u ∈ t.kids, inR t.kind b + u.size ≤ 2000000) := fun u hu => by have h1 := rsize_mem hu; have h2 := inR_le t.kind b; omega
  clear ih hf3
  obtain ⟨x1, x2, hx, _⟩ := hb.shape
  obtain ⟨x3, x4, hx', _⟩ := ha.shape
  obtain ⟨N, hN⟩ : ∃ N, w.heap.size = N := ⟨_, rfl⟩
  generalize t.ty.args.length = n1 at hx
  obtain ⟨n2, hn2⟩ : ∃ n, t.kids.length = n := ⟨_, rfl⟩
  rw [hn2] at hx'
  subst hx hx'
  obtain ⟨k, hk⟩ : ∃ k, t.kind = k := ⟨_, rfl⟩
  obtain ⟨W0, hW0⟩ : ∃ W0, (((w.alloc (.cells #[.int .i64 k, .slice x1 n1 x2, .int .i64 t.ty.base, .int .i64 t.idx, .slice x3 n2 x4] 35)).alloc (.cells #[.int .i64 (b : Int)] 3)).alloc (.cells #[.func (.func 107) #[] #[caps1]] 51)).alloc (.cells #[.int .i64 0, .slice none 0 0, .int .i64 0, .int .i64 0, .slice none 0 0] 35) = W0 := ⟨_, rfl⟩
  have b0 : Blk W0 N 35 #[.int .i64 k, .slice x1 n1 x2, .int .i64 t.ty.base, .int .i64 t.idx, .slice x3 n2 x4] := by rw [← hW0]; exact (((Blk.new' w N 35 _ hN).alloc _).alloc _).alloc _
  have b1 : Blk W0 (N + 1) 3 #[.int .i64 (b : Int)] := by rw [← hW0]; exact ((Blk.new' _ (N + 1) 3 _ (by simp [hN])).alloc _).alloc _
  have b2 : Blk W0 (N + 2) 51 #[.func (.func 107) #[] #[caps1]] := by rw [← hW0]; exact (Blk.new' _ (N + 2) 51 _ (by simp [hN])).alloc _
  have b3 : Blk W0 (N + 3) 35 #[.int .i64 0, .slice none 0 0, .int .i64 0, .int .i64 0, .slice none 0 0] := by rw [← hW0]; exact Blk.new' _ (N + 3) 35 _ (by simp [hN])
  have bl : Below N w W0 := by rw [← hW0]; exact ((((Below.refl N w).alloc (by omega) _).alloc (by simp; omega) _).alloc (by simp; omega) _).alloc (by simp; omega) _
  have hO0 : Only [] w W0 := Only.of_below' (by rw [hN]; exact bl)
  have hz : W0.heap.size = N + 4 := by rw [← hW0]; simp [hN]
  have hb0 : Holds W0 (fun b => b < N) t.ty.args (.slice x1 n1 x2) := (hb.mono (ok' := fun b => b < N) fun b h _ => by omega).bel (hN ▸ bl)
  have ha0 : HoldsR W0 (fun b => b < N) t.kids (.slice x3 n2 x4) := (ha.mono (ok' := fun b => b < N) fun b h _ => by omega).bel (hN ▸ bl)
  have c0 := b0.cell 0
  have c1 := b0.cell 1
  have c2 := b0.cell 2
  have c3 := b0.cell 3
  have c4 := b0.cell 4
  have d0 := b1.cell 0
  have e0 := b2.cell 0
  have HW : Hid _ := hW0
  have hg9 : w.heap.size ≤ N + 3 := by omega
  have HK : Hid (t.kind = k) := hk
  rw [hk] at hte HSZ
  clear hW0 hb ha
  by_cases h0 : k = 0
  · subst h0
    rw [if_pos rfl] at hte
    have hcall := hG t.idx b W0 (hWw.trans hO0) (by omega)
    rw [hte]
    obtain ⟨v, hv⟩ : ∃ v, g t.idx b = v := ⟨_, rfl⟩
    rw [hv] at hcall ⊢
    rw [hk]
    clear hte hv hk HK
    go_enter Try.func96, Try.ntmps96
    go_upto_region 1 with fail
    rw [HW.out]
    clear HW
    go_wp2_with fail
    refine hcall.mono ?_
    rintro e w1 ⟨vb, vr, rfl, hvb, hvr, hO1⟩
    obtain ⟨u1, u2, rfl, _⟩ := hvb.shape
    obtain ⟨u3, u4, rfl, _⟩ := hvr.shape
    generalize v.ty.args.length = m1 at *
    generalize v.kids.length = m2 at *
    have m9 := b3.only hO1 (by simp)
    have hO2 : Only [] w w1 := hO0.trans hO1
    clear hcall c0 c1 c2 c3 c4 d0 e0
    have e0 := m9.cell 0
    have e1 := m9.cell 1
    have e2 := m9.cell 2
    have e3 := m9.cell 3
    have e4 := m9.cell 4
    have f0 := m9.frozen 0
    have f1 := m9.frozen 1
    have f2 := m9.frozen 2
    have f3 := m9.frozen 3
    have f4 := m9.frozen 4
    have h5 := holds_set5 (g := N + 3) (ok' := fun b => w.heap.size ≤ b) hvb (fun b _ h => ⟨by omega, by omega⟩) (.int .i64 v.kind) (.slice u1 m1 u2) (.int .i64 v.ty.base) (.int .i64 v.idx) (.slice u3 m2 u4)
    have h6 := holdsR_set5 (g := N + 3) (ok' := fun b => w.heap.size ≤ b) hvr (fun b _ h => ⟨by omega, by omega⟩) (.int .i64 v.kind) (.slice u1 m1 u2) (.int .i64 v.ty.base) (.int .i64 v.idx) (.slice u3 m2 u4)
    have b5 := (((((m9.set 0 (.int .i64 v.kind)).set 1 (.slice u1 m1 u2)).set 2 (.int .i64 v.ty.base)).set 3 (.int .i64 v.idx)).set 4 (.slice u3 m2 u4))
    have hO5 := (((((hO2.setNew hg9 0 (.int .i64 v.kind)).setNew hg9 1 (.slice u1 m1 u2)).setNew hg9 2 (.int .i64 v.ty.base)).setNew hg9 3 (.int .i64 v.idx)).setNew hg9 4 (.slice u3 m2 u4))
    go_wp2
    generalize (((((w1.setCell ⟨N + 3, 0, none⟩ (.int .i64 v.kind)).setCell ⟨N + 3, 1, none⟩ (.slice u1 m1 u2)).setCell ⟨N + 3, 2, none⟩ (.int .i64 v.ty.base)).setCell ⟨N + 3, 3, none⟩ (.int .i64 v.idx)).setCell ⟨N + 3, 4, none⟩ (.slice u3 m2 u4)) = W5 at *
    have g0 : W5.cell? ⟨N + 3, 0, none⟩ = some (.int .i64 v.kind) := b5.cell 0
    have g1 : W5.cell? ⟨N + 3, 1, none⟩ = some (.slice u1 m1 u2) := b5.cell 1
    have g2 : W5.cell? ⟨N + 3, 2, none⟩ = some (.int .i64 v.ty.base) := b5.cell 2
    have g3 : W5.cell? ⟨N + 3, 3, none⟩ = some (.int .i64 v.idx) := b5.cell 3
    have g4 : W5.cell? ⟨N + 3, 4, none⟩ = some (.slice u3 m2 u4) := b5.cell 4
    exact bodyPost_ret (v := rwv v.kind (.slice u1 m1 u2) v.ty.base v.idx (.slice u3 m2 u4)) (by simp [results, Try.results96, go_sem, g0, g1, g2, g3, g4]) rfl ⟨_, _, rfl, h5, h6, hO5⟩
  · have z0 : (k == 0) = false := by simp [h0]
    rw [if_neg h0] at hte
    have hcall := within_calls k t.ty.base t.idx x1 n1 x2 x3 n2 x4 b (by omega) W0
    obtain ⟨M, hM⟩ : ∃ M, inR k b = M := ⟨_, rfl⟩
    rw [hM] at hcall hte HSZ
    have HTE : Hid (t.turn g b = .mk t.kind t.ty t.idx (turnL g M t.kids)) := by show _ = _; rw [hte, HK.out]
    rw [hk]
    clear h0 hM hte hk
    go_enter Try.func96, Try.ntmps96
    go_upto_region 1 with fail
    rw [HW.out]
    clear HW
    go_wp2_with fail
    refine hcall.mono ?_
    rintro e w1 ⟨rfl, hb1⟩
    have k0 := b0.below hb1 b0.lt
    have k1 := b1.below hb1 b1.lt
    have k2 := b2.below hb1 b2.lt
    have k3 := b3.below hb1 b3.lt
    have hO1 : Only [] w w1 := hO0.trans (Only.of_below' hb1)
    have hb1' := hb0.bel hb1
    have ha1' := ha0.bel hb1
    clear hcall c0 c1 c2 c3 c4 d0 e0 b0 b1 b2 b3 hb0 ha0
    have hs1 := hb1.size
    have d0 := k1.cell 0
    have f0 := k1.frozen 0
    have hg8 : w.heap.size ≤ N + 1 := by omega
    have l0 := k0.other (B' := N + 1) (by omega) 0 (.int .i64 (M : Int))
    have l1 := k1.set 0 (.int .i64 (M : Int))
    have l2 := k2.other (B' := N + 1) (by omega) 0 (.int .i64 (M : Int))
    have l3 := k3.other (B' := N + 1) (by omega) 0 (.int .i64 (M : Int))
    have hO2 := hO1.setNew hg8 0 (.int .i64 (M : Int))
    have hbk := holds_other hb1' (g := N + 1) (by omega) 0 (.int .i64 (M : Int))
    have hak := holdsR_other ha1' (g := N + 1) (by omega) 0 (.int .i64 (M : Int))
    have hz2 : N + 4 ≤ (w1.setCell ⟨N + 1, 0, none⟩ (.int .i64 (M : Int))).heap.size := by have := l3.lt; omega
    obtain ⟨W2, hW2⟩ : ∃ W2, w1.setCell ⟨N + 1, 0, none⟩ (.int .i64 (M : Int)) = W2 := ⟨_, rfl⟩
    rw [hW2] at l0 l1 l2 l3 hO2 hbk hak hz2
    have HW2 : Hid _ := hW2
    have hcall := remakeT_calls t (fun b => b < N) _ _ (.pointer (some ⟨N + 1, 0, none⟩)) (.pointer (some ⟨N + 2, 0, none⟩)) W2 [] (fun outs _ => outs = (t.kids.take outs.length).map (Rw.turn g M)) hbk hak (fun b _ => by simp) (fun b h => by cases h) hf1 hf2 rfl (fun _ _ _ h _ => h)
      (by
        intro outs u ok' sb' sr' cur hu hP hOc h1 h2 _
        have hum := List.mem_of_getElem? hu
        refine (turn1_calls 107 #[caps1] W g u (hIH.out u hum) M (N + 1) (N + 2) ok' sb' sr' cur ((hWw.trans hO2).trans hOc) (HSZ.out u hum) (l1.only hOc (by simp)) (l2.only hOc (by simp)) h1 h2).mono fun e w' h => ⟨u.turn g M, h, ?_⟩
        show outs ++ [u.turn g M] = (t.kids.take (outs ++ [u.turn g M]).length).map (Rw.turn g M)
        rw [List.length_append, List.length_singleton, List.take_add_one, hu, List.map_append, ← hP]; rfl)
    rw [HK.out] at hcall
    have HN2 : Hid (t.kids.length = n2) := hn2
    rw [hn2] at hcall
    clear hW2 hb1' ha1' hbk hak k0 k1 k2 k3 hb1 hn2
    go_upto_region 4 with fail
    rw [HW2.out]
    clear HW2 d0 f0
    have c0 := l0.cell 0
    have c1 := l0.cell 1
    have c2 := l0.cell 2
    have c3 := l0.cell 3
    have c4 := l0.cell 4
    go_wp2_with fail
    refine hcall.mono ?_
    rintro e w3 ⟨outs, ho1, ⟨vb, vr, he, hvb, hvr, hO3⟩, ho2⟩
    have hos : outs = turnL g M t.kids := by rw [turnL_map]; rw [ho1, ← HN2.out, List.take_length] at ho2; exact ho2
    subst hos
    have he' : e = .returned (rwv k vb t.ty.base t.idx vr) := by rw [he, HK.out]; rfl
    subst he'
    have hvb : Holds w3 (fun b => W2.heap.size ≤ b) t.ty.args vb := hvb
    have hvr : HoldsR w3 (fun b => W2.heap.size ≤ b) (turnL g M t.kids) vr := hvr
    obtain ⟨u1, u2, rfl, _⟩ := hvb.shape
    obtain ⟨u3, u4, rfl, _⟩ := hvr.shape
    generalize turnL g M t.kids = tk at *
    generalize t.ty.args.length = m1 at *
    generalize tk.length = m2 at *
    have m9 := l3.only hO3 (by simp)
    have hO4 : Only [] w w3 := hO2.trans hO3
    clear hcall c0 c1 c2 c3 c4 he ho1 ho2 l0 l1 l2 l3
    have e0 := m9.cell 0
    have e1 := m9.cell 1
    have e2 := m9.cell 2
    have e3 := m9.cell 3
    have e4 := m9.cell 4
    have f0 := m9.frozen 0
    have f1 := m9.frozen 1
    have f2 := m9.frozen 2
    have f3 := m9.frozen 3
    have f4 := m9.frozen 4
    have h5 := holds_set5 (g := N + 3) (ok' := fun b => w.heap.size ≤ b) hvb (fun b _ h => ⟨by omega, by omega⟩) (.int .i64 k) (.slice u1 m1 u2) (.int .i64 t.ty.base) (.int .i64 t.idx) (.slice u3 m2 u4)
    have h6 := holdsR_set5 (g := N + 3) (ok' := fun b => w.heap.size ≤ b) hvr (fun b _ h => ⟨by omega, by omega⟩) (.int .i64 k) (.slice u1 m1 u2) (.int .i64 t.ty.base) (.int .i64 t.idx) (.slice u3 m2 u4)
    have b5 := (((((m9.set 0 (.int .i64 k)).set 1 (.slice u1 m1 u2)).set 2 (.int .i64 t.ty.base)).set 3 (.int .i64 t.idx)).set 4 (.slice u3 m2 u4))
    have hO5 := (((((hO4.setNew hg9 0 (.int .i64 k)).setNew hg9 1 (.slice u1 m1 u2)).setNew hg9 2 (.int .i64 t.ty.base)).setNew hg9 3 (.int .i64 t.idx)).setNew hg9 4 (.slice u3 m2 u4))
    go_wp2
    generalize (((((w3.setCell ⟨N + 3, 0, none⟩ (.int .i64 k)).setCell ⟨N + 3, 1, none⟩ (.slice u1 m1 u2)).setCell ⟨N + 3, 2, none⟩ (.int .i64 t.ty.base)).setCell ⟨N + 3, 3, none⟩ (.int .i64 t.idx)).setCell ⟨N + 3, 4, none⟩ (.slice u3 m2 u4)) = W5 at *
    have g0 : W5.cell? ⟨N + 3, 0, none⟩ = some (.int .i64 k) := b5.cell 0
    have g1 : W5.cell? ⟨N + 3, 1, none⟩ = some (.slice u1 m1 u2) := b5.cell 1
    have g2 : W5.cell? ⟨N + 3, 2, none⟩ = some (.int .i64 t.ty.base) := b5.cell 2
    have g3 : W5.cell? ⟨N + 3, 3, none⟩ = some (.int .i64 t.idx) := b5.cell 3
    have g4 : W5.cell? ⟨N + 3, 4, none⟩ = some (.slice u3 m2 u4) := b5.cell 4
    exact bodyPost_ret (v := rwv k (.slice u1 m1 u2) t.ty.base t.idx (.slice u3 m2 u4)) (by simp [results, Try.results96, go_sem, g0, g1, g2, g3, g4]) rfl (by rw [HTE.out, HK.out]; exact ⟨_, _, rfl, h5, h6, hO5⟩)

set_option maxRecDepth 100000 in
set_option maxHeartbeats 3200000 in
theorem turn97_calls (caps1 : Value) (W : World) (g : Int → Nat → Rw) (hG : GAt 97 #[caps1] W g) (t : Rw) : t.fit → TurnAt 97 #[caps1] W g t := by
  induction t using Rw.ind with
  | h t ih =>
  intro hfit b ok sb sr w hWw hbs hb ha
  rw [t.fit_eq, fitR_iff] at hfit
  obtain ⟨hf1, hf2, hf3⟩ := hfit
  have hIH : Hid (∀ u ∈ t.kids, TurnAt 97 #[caps1] W g u) := fun u hu => ih u hu (hf3 u hu)
  have hte := t.turn_eq g b
  have hsz := t.size_eq
  have HSZ : Hid (∀ u ∈ t.kids, inR t.kind b + u.size ≤ 2000000) := fun u hu => by have h1 := rsize_mem hu; have h2 := inR_le t.kind b; omega
  clear ih hf3
  obtain ⟨x1, x2, hx, _⟩ := hb.shape
  obtain ⟨x3, x4, hx', _⟩ := ha.shape
  obtain ⟨N, hN⟩ : ∃ N, w.heap.size = N := ⟨_, rfl⟩
  generalize t.ty.args.length = n1 at hx
  obtain ⟨n2, hn2⟩ : ∃ n, t.kids.length = n := ⟨_, rfl⟩
  rw [hn2] at hx'
  subst hx hx'
  obtain ⟨k, hk⟩ : ∃ k, t.kind = k := ⟨_, rfl⟩
  obtain ⟨W0, hW0⟩ : ∃ W0, (((w.alloc (.cells #[.int .i64 k, .slice x1 n1 x2, .int .i64 t.ty.base, .int .i64 t.idx, .slice x3 n2 x4] 35)).alloc (.cells #[.int .i64 (b : Int)] 3)).alloc (.cells #[.func (.func 97) #[] #[caps1]] 51)).alloc (.cells #[.int .i64 0, .slice none 0 0, .int .i64 0, .int .i64 0, .slice none 0 0] 35) = W0 := ⟨_, rfl⟩
  have b0 : Blk W0 N 35 #[.int .i64 k, .slice x1 n1 x2, .int .i64 t.ty.base, .int .i64 t.idx, .slice x3 n2 x4] := by rw [← hW0]; exact (((Blk.new' w N 35 _ hN).alloc _).alloc _).alloc _
  have b1 : Blk W0 (N + 1) 3 #[.int .i64 (b : Int)] := by rw [← hW0]; exact ((Blk.new' _ (N + 1) 3 _ (by simp [hN])).alloc _).alloc _
  have b2 : Blk W0 (N + 2) 51 #[.func (.func 97) #[] #[caps1]] := by rw [← hW0]; exact (Blk.new' _ (N + 2) 51 _ (by simp [hN])).alloc _
  have b3 : Blk W0 (N + 3) 35 #[.int .i64 0, .slice none 0 0, .int .i64 0, .int .i64 0, .slice none 0 0] := by rw [← hW0]; exact Blk.new' _ (N + 3) 35 _ (by simp [hN])
  have bl : Below N w W0 := by rw [← hW0]; exact ((((Below.refl N w).alloc (by omega) _).alloc (by simp; omega) _).alloc (by simp; omega) _).alloc (by simp; omega) _
  have hO0 : Only [] w W0 := Only.of_below' (by rw [hN]; exact bl)
  have hz : W0.heap.size = N + 4 := by rw [← hW0]; simp [hN]
  have hb0 : Holds W0 (fun b => b < N) t.ty.args (.slice x1 n1 x2) := (hb.mono (ok' := fun b => b < N) fun b h _ => by omega).bel (hN ▸ bl)
  have ha0 : HoldsR W0 (fun b => b < N) t.kids (.slice x3 n2 x4) := (ha.mono (ok' := fun b => b < N) fun b h _ => by omega).bel (hN ▸ bl)
  have c0 := b0.cell 0
  have c1 := b0.cell 1
  have c2 := b0.cell 2
  have c3 := b0.cell 3
  have c4 := b0.cell 4
  have d0 := b1.cell 0
  have e0 := b2.cell 0
  have HW : Hid _ := hW0
  have hg9 : w.heap.size ≤ N + 3 := by omega
  have HK : Hid (t.kind = k) := hk
  rw [hk] at hte HSZ
  clear hW0 hb ha
  by_cases h0 : k = 0
  · subst h0
    rw [if_pos rfl] at hte
    have hcall := hG t.idx b W0 (hWw.trans hO0) (by omega)
    rw [hte]
    obtain ⟨v, hv⟩ : ∃ v, g t.idx b = v := ⟨_, rfl⟩
    rw [hv] at hcall ⊢
    rw [hk]
    clear hte hv hk HK
    go_enter Try.func96, Try.ntmps96
    go_upto_region 1 with fail
    rw [HW.out]
    clear HW
    go_wp2_with fail
    refine hcall.mono ?_
    rintro e w1 ⟨vb, vr, rfl, hvb, hvr, hO1⟩
    obtain ⟨u1, u2, rfl, _⟩ := hvb.shape
    obtain ⟨u3, u4, rfl, _⟩ := hvr.shape
    generalize v.ty.args.length = m1 at *
    generalize v.kids.length = m2 at *
    have m9 := b3.only hO1 (by simp)
    have hO2 : Only [] w w1 := hO0.trans hO1
    clear hcall c0 c1 c2 c3 c4 d0 e0
    have e0 := m9.cell 0
    have e1 := m9.cell 1
    have e2 := m9.cell 2
    have e3 := m9.cell 3
    have e4 := m9.cell 4
    have f0 := m9.frozen 0
    have f1 := m9.frozen 1
    have f2 := m9.frozen 2
    have f3 := m9.frozen 3
    have f4 := m9.frozen 4
    have h5 := holds_set5 (g := N + 3) (ok' := fun b => w.heap.size ≤ b) hvb (fun b _ h => ⟨by omega, by omega⟩) (.int .i64 v.kind) (.slice u1 m1 u2) (.int .i64 v.ty.base) (.int .i64 v.idx) (.slice u3 m2 u4)
    have h6 := holdsR_set5 (g := N + 3) (ok' := fun b => w.heap.size ≤ b) hvr (fun b _ h => ⟨by omega, by omega⟩) (.int .i64 v.kind) (.slice u1 m1 u2) (.int .i64 v.ty.base) (.int .i64 v.idx) (.slice u3 m2 u4)
    have b5 := (((((m9.set 0 (.int .i64 v.kind)).set 1 (.slice u1 m1 u2)).set 2 (.int .i64 v.ty.base)).set 3 (.int .i64 v.idx)).set 4 (.slice u3 m2 u4))
    have hO5 := (((((hO2.setNew hg9 0 (.int .i64 v.kind)).setNew hg9 1 (.slice u1 m1 u2)).setNew hg9 2 (.int .i64 v.ty.base)).setNew hg9 3 (.int .i64 v.idx)).setNew hg9 4 (.slice u3 m2 u4))
    go_wp2
    generalize (((((w1.setCell ⟨N + 3, 0, none⟩ (.int .i64 v.kind)).setCell ⟨N + 3, 1, none⟩ (.slice u1 m1 u2)).setCell ⟨N + 3, 2, none⟩ (.int .i64 v.ty.base)).setCell ⟨N + 3, 3, none⟩ (.int .i64 v.idx)).setCell ⟨N + 3, 4, none⟩ (.slice u3 m2 u4)) = W5 at *
    have g0 : W5.cell? ⟨N + 3, 0, none⟩ = some (.int .i64 v.kind) := b5.cell 0
    have g1 : W5.cell? ⟨N + 3, 1, none⟩ = some (.slice u1 m1 u2) := b5.cell 1
    have g2 : W5.cell? ⟨N + 3, 2, none⟩ = some (.int .i64 v.ty.base) := b5.cell 2
    have g3 : W5.cell? ⟨N + 3, 3, none⟩ = some (.int .i64 v.idx) := b5.cell 3
    have g4 : W5.cell? ⟨N + 3, 4, none⟩ = some (.slice u3 m2 u4) := b5.cell 4
    exact bodyPost_ret (v := rwv v.kind (.slice u1 m1 u2) v.ty.base v.idx (.slice u3 m2 u4)) (by simp [results, Try.results96, go_sem, g0, g1, g2, g3, g4]) rfl ⟨_, _, rfl, h5, h6, hO5⟩
  · have z0 : (k == 0) = false := by simp [h0]
    rw [if_neg h0] at hte
    have hcall := within_calls k t.ty.base t.idx x1 n1 x2 x3 n2 x4 b (by omega) W0
    obtain ⟨M, hM⟩ : ∃ M, inR k b = M := ⟨_, rfl⟩
    rw [hM] at hcall hte HSZ
    have HTE : Hid (t.turn g b = .mk t.kind t.ty t.idx (turnL g M t.kids)) := by show _ = _; rw [hte, HK.out]
    rw [hk]
    clear h0 hM hte hk
    go_enter Try.func96, Try.ntmps96
    go_upto_region 1 with fail
    rw [HW.out]
    clear HW
    go_wp2_with fail
    refine hcall.mono ?_
    rintro e w1 ⟨rfl, hb1⟩
    have k0 := b0.below hb1 b0.lt
    have k1 := b1.below hb1 b1.lt
    have k2 := b2.below hb1 b2.lt
    have k3 := b3.below hb1 b3.lt
    have hO1 : Only [] w w1 := hO0.trans (Only.of_below' hb1)
    have hb1' := hb0.bel hb1
    have ha1' := ha0.bel hb1
    clear hcall c0 c1 c2 c3 c4 d0 e0 b0 b1 b2 b3 hb0 ha0
    have hs1 := hb1.size
    have d0 := k1.cell 0
    have f0 := k1.frozen 0
    have hg8 : w.heap.size ≤ N + 1 := by omega
    have l0 := k0.other (B' := N + 1) (by omega) 0 (.int .i64 (M : Int))
    have l1 := k1.set 0 (.int .i64 (M : Int))
    have l2 := k2.other (B' := N + 1) (by omega) 0 (.int .i64 (M : Int))
    have l3 := k3.other (B' := N + 1) (by omega) 0 (.int .i64 (M : Int))
    have hO2 := hO1.setNew hg8 0 (.int .i64 (M : Int))
    have hbk := holds_other hb1' (g := N + 1) (by omega) 0 (.int .i64 (M : Int))
    have hak := holdsR_other ha1' (g := N + 1) (by omega) 0 (.int .i64 (M : Int))
    have hz2 : N + 4 ≤ (w1.setCell ⟨N + 1, 0, none⟩ (.int .i64 (M : Int))).heap.size := by have := l3.lt; omega
    obtain ⟨W2, hW2⟩ : ∃ W2, w1.setCell ⟨N + 1, 0, none⟩ (.int .i64 (M : Int)) = W2 := ⟨_, rfl⟩
    rw [hW2] at l0 l1 l2 l3 hO2 hbk hak hz2
    have HW2 : Hid _ := hW2
    have hcall := remakeT_calls t (fun b => b < N) _ _ (.pointer (some ⟨N + 1, 0, none⟩)) (.pointer (some ⟨N + 2, 0, none⟩)) W2 [] (fun outs _ => outs = (t.kids.take outs.length).map (Rw.turn g M)) hbk hak (fun b _ => by simp) (fun b h => by cases h) hf1 hf2 rfl (fun _ _ _ h _ => h)
      (by
        intro outs u ok' sb' sr' cur hu hP hOc h1 h2 _
        have hum := List.mem_of_getElem? hu
        refine (turn1_calls 97 #[caps1] W g u (hIH.out u hum) M (N + 1) (N + 2) ok' sb' sr' cur ((hWw.trans hO2).trans hOc) (HSZ.out u hum) (l1.only hOc (by simp)) (l2.only hOc (by simp)) h1 h2).mono fun e w' h => ⟨u.turn g M, h, ?_⟩
        show outs ++ [u.turn g M] = (t.kids.take (outs ++ [u.turn g M]).length).map (Rw.turn g M)
        rw [List.length_append, List.length_singleton, List.take_add_one, hu, List.map_append, ← hP]; rfl)
    rw [HK.out] at hcall
    have HN2 : Hid (t.kids.length = n2) := hn2
    rw [hn2] at hcall
    clear hW2 hb1' ha1' hbk hak k0 k1 k2 k3 hb1 hn2
    go_upto_region 4 with fail
    rw [HW2.out]
    clear HW2 d0 f0
    have c0 := l0.cell 0
    have c1 := l0.cell 1
    have c2 := l0.cell 2
    have c3 := l0.cell 3
    have c4 := l0.cell 4
    go_wp2_with fail
    refine hcall.mono ?_
    rintro e w3 ⟨outs, ho1, ⟨vb, vr, he, hvb, hvr, hO3⟩, ho2⟩
    have hos : outs = turnL g M t.kids := by rw [turnL_map]; rw [ho1, ← HN2.out, List.take_length] at ho2; exact ho2
    subst hos
    have he' : e = .returned (rwv k vb t.ty.base t.idx vr) := by rw [he, HK.out]; rfl
    subst he'
    have hvb : Holds w3 (fun b => W2.heap.size ≤ b) t.ty.args vb := hvb
    have hvr : HoldsR w3 (fun b => W2.heap.size ≤ b) (turnL g M t.kids) vr := hvr
    obtain ⟨u1, u2, rfl, _⟩ := hvb.shape
    obtain ⟨u3, u4, rfl, _⟩ := hvr.shape
    generalize turnL g M t.kids = tk at *
    generalize t.ty.args.length = m1 at *
    generalize tk.length = m2 at *
    have m9 := l3.only hO3 (by simp)
    have hO4 : Only [] w w3 := hO2.trans hO3
    clear hcall c0 c1 c2 c3 c4 he ho1 ho2 l0 l1 l2 l3
    have e0 := m9.cell 0
    have e1 := m9.cell 1
    have e2 := m9.cell 2
    have e3 := m9.cell 3
    have e4 := m9.cell 4
    have f0 := m9.frozen 0
    have f1 := m9.frozen 1
    have f2 := m9.frozen 2
    have f3 := m9.frozen 3
    have f4 := m9.frozen 4
    have h5 := holds_set5 (g := N + 3) (ok' := fun b => w.heap.size ≤ b) hvb (fun b _ h => ⟨by omega, by omega⟩) (.int .i64 k) (.slice u1 m1 u2) (.int .i64 t.ty.base) (.int .i64 t.idx) (.slice u3 m2 u4)
    have h6 := holdsR_set5 (g := N + 3) (ok' := fun b => w.heap.size ≤ b) hvr (fun b _ h => ⟨by omega, by omega⟩) (.int .i64 k) (.slice u1 m1 u2) (.int .i64 t.ty.base) (.int .i64 t.idx) (.slice u3 m2 u4)
    have b5 := (((((m9.set 0 (.int .i64 k)).set 1 (.slice u1 m1 u2)).set 2 (.int .i64 t.ty.base)).set 3 (.int .i64 t.idx)).set 4 (.slice u3 m2 u4))
    have hO5 := (((((hO4.setNew hg9 0 (.int .i64 k)).setNew hg9 1 (.slice u1 m1 u2)).setNew hg9 2 (.int .i64 t.ty.base)).setNew hg9 3 (.int .i64 t.idx)).setNew hg9 4 (.slice u3 m2 u4))
    go_wp2
    generalize (((((w3.setCell ⟨N + 3, 0, none⟩ (.int .i64 k)).setCell ⟨N + 3, 1, none⟩ (.slice u1 m1 u2)).setCell ⟨N + 3, 2, none⟩ (.int .i64 t.ty.base)).setCell ⟨N + 3, 3, none⟩ (.int .i64 t.idx)).setCell ⟨N + 3, 4, none⟩ (.slice u3 m2 u4)) = W5 at *
    have g0 : W5.cell? ⟨N + 3, 0, none⟩ = some (.int .i64 k) := b5.cell 0
    have g1 : W5.cell? ⟨N + 3, 1, none⟩ = some (.slice u1 m1 u2) := b5.cell 1
    have g2 : W5.cell? ⟨N + 3, 2, none⟩ = some (.int .i64 t.ty.base) := b5.cell 2
    have g3 : W5.cell? ⟨N + 3, 3, none⟩ = some (.int .i64 t.idx) := b5.cell 3
    have g4 : W5.cell? ⟨N + 3, 4, none⟩ = some (.slice u3 m2 u4) := b5.cell 4
    exact bodyPost_ret (v := rwv k (.slice u1 m1 u2) t.ty.base t.idx (.slice u3 m2 u4)) (by simp [results, Try.results96, go_sem, g0, g1, g2, g3, g4]) rfl (by rw [HTE.out, HK.out]; exact ⟨_, _, rfl, h5, h6, hO5⟩)

end Go.Proofs.Ytckagmagjogmnaa

namespace Go.Proofs.Ytckagmagjogmnaa
open Go Go.RowKit

/-- a grown index -/
def growG (by_ : Int) (i : Int) (b : Nat) : Rw := hdR 0 (if (b : Int) ≤ i then wrap64 (i + by_) else i)
/-- a raw term, its loose indexes grown -/
def Rw.grow (t : Rw) (by_ : Int) : Rw := t.turn (growG by_) 0
/-- what stands for an index, where a is put for that of the binders -/
def substG (a : Rw) (i : Int) (b : Nat) : Rw := if i = b then a.grow b else if (b : Int) < i then hdR 0 (wrap64 (i - 1)) else hdR 0 i
/-- a for the index 0 of body -/
def substR (body a : Rw) : Rw := body.turn (substG a) 0

set_option maxRecDepth 100000 in
set_option maxHeartbeats 1600000 in
theorem grow1_calls (by_ : Int) (A : Nat) (W : World) (hA : Blk W A 3 #[.int .i64 by_]) : GAt 107 #[.pointer (some ⟨A, 0, none⟩)] W (growG by_) := by
  intro i b w hO hb
  obtain ⟨N, hN⟩ : ∃ N, w.heap.size = N := ⟨_, rfl⟩
  have hA1 := hA.only hO (by simp)
  obtain ⟨W0, hW0⟩ : ∃ W0, w.alloc (.cells #[.int .i64 0, .slice none 0 0, .int .i64 0, .int .i64 0, .slice none 0 0] 35) = W0 := ⟨_, rfl⟩
  have b1 : Blk W0 N 35 #[.int .i64 0, .slice none 0 0, .int .i64 0, .int .i64 0, .slice none 0 0] := by rw [← hW0]; exact Blk.new' _ N 35 _ hN
  have bl : Below N w W0 := by rw [← hW0]; exact (Below.refl N w).alloc (by omega) _
  have hO0 : Only [] w W0 := Only.of_below' (by rw [hN]; exact bl)
  have a0 := (hA1.only hO0 (by simp)).cell 0
  have hz : W0.heap.size = N + 1 := by rw [← hW0]; simp [hN]
  have hg9 : w.heap.size ≤ N := by omega
  have HW : Hid _ := hW0
  clear hW0 hA hA1 hO
  by_cases h : (b : Int) ≤ i
  · have z : decide ((b : Int) ≤ i) = true := by simp; omega
    have z' : decide (i ≥ (b : Int)) = true := by simp; omega
    obtain ⟨v, hv⟩ : ∃ v, growG by_ i b = v := ⟨_, rfl⟩
    have HV : Hid (hdR 0 (wrap64 (i + by_)) = v) := by show _ = _; rw [← hv]; unfold growG; rw [if_pos h]
    have hcall := Head_calls 0 (wrap64 (i + by_)) W0
    rw [HV.out] at hcall
    rw [hv]
    clear h hv HV
    go_enter Try.func107, Try.ntmps107
    go_upto_region 1 with fail
    rw [HW.out]
    clear HW
    go_wp2_with fail
    refine hcall.mono ?_
    rintro e w1 ⟨vb, vr, rfl, hvb, hvr, hO1⟩
    obtain ⟨u1, u2, rfl, _⟩ := hvb.shape
    obtain ⟨u3, u4, rfl, _⟩ := hvr.shape
    generalize v.ty.args.length = m1 at *
    generalize v.kids.length = m2 at *
    have m9 := b1.only hO1 (by simp)
    have hO2 : Only [] w w1 := hO0.trans hO1
    clear hcall a0
    have e0 := m9.cell 0
    have e1 := m9.cell 1
    have e2 := m9.cell 2
    have e3 := m9.cell 3
    have e4 := m9.cell 4
    have f0 := m9.frozen 0
    have f1 := m9.frozen 1
    have f2 := m9.frozen 2
    have f3 := m9.frozen 3
    have f4 := m9.frozen 4
    have h5 := holds_set5 (g := N) (ok' := fun b => w.heap.size ≤ b) hvb (fun b _ h => ⟨by omega, by omega⟩) (.int .i64 v.kind) (.slice u1 m1 u2) (.int .i64 v.ty.base) (.int .i64 v.idx) (.slice u3 m2 u4)
    have h6 := holdsR_set5 (g := N) (ok' := fun b => w.heap.size ≤ b) hvr (fun b _ h => ⟨by omega, by omega⟩) (.int .i64 v.kind) (.slice u1 m1 u2) (.int .i64 v.ty.base) (.int .i64 v.idx) (.slice u3 m2 u4)
    have b5 := (((((m9.set 0 (.int .i64 v.kind)).set 1 (.slice u1 m1 u2)).set 2 (.int .i64 v.ty.base)).set 3 (.int .i64 v.idx)).set 4 (.slice u3 m2 u4))
    have hO5 := (((((hO2.setNew hg9 0 (.int .i64 v.kind)).setNew hg9 1 (.slice u1 m1 u2)).setNew hg9 2 (.int .i64 v.ty.base)).setNew hg9 3 (.int .i64 v.idx)).setNew hg9 4 (.slice u3 m2 u4))
    go_wp2
    generalize (((((w1.setCell ⟨N, 0, none⟩ (.int .i64 v.kind)).setCell ⟨N, 1, none⟩ (.slice u1 m1 u2)).setCell ⟨N, 2, none⟩ (.int .i64 v.ty.base)).setCell ⟨N, 3, none⟩ (.int .i64 v.idx)).setCell ⟨N, 4, none⟩ (.slice u3 m2 u4)) = W5 at *
    have g0 : W5.cell? ⟨N, 0, none⟩ = some (.int .i64 v.kind) := b5.cell 0
    have g1 : W5.cell? ⟨N, 1, none⟩ = some (.slice u1 m1 u2) := b5.cell 1
    have g2 : W5.cell? ⟨N, 2, none⟩ = some (.int .i64 v.ty.base) := b5.cell 2
    have g3 : W5.cell? ⟨N, 3, none⟩ = some (.int .i64 v.idx) := b5.cell 3
    have g4 : W5.cell? ⟨N, 4, none⟩ = some (.slice u3 m2 u4) := b5.cell 4
    exact bodyPost_ret (v := rwv v.kind (.slice u1 m1 u2) v.ty.base v.idx (.slice u3 m2 u4)) (by simp [results, Try.results107, go_sem, g0, g1, g2, g3, g4]) rfl ⟨_, _, rfl, h5, h6, hO5⟩
  · have z : decide ((b : Int) ≤ i) = false := by simp; omega
    have z' : decide (i ≥ (b : Int)) = false := by simp; omega
    obtain ⟨v, hv⟩ : ∃ v, growG by_ i b = v := ⟨_, rfl⟩
    have HV : Hid (hdR 0 i = v) := by show _ = _; rw [← hv]; unfold growG; rw [if_neg h]
    have hcall := Head_calls 0 i W0
    rw [HV.out] at hcall
    rw [hv]
    clear h hv HV
    go_enter Try.func107, Try.ntmps107
    go_upto_region 1 with fail
    rw [HW.out]
    clear HW
    go_wp2_with fail
    refine hcall.mono ?_
    rintro e w1 ⟨vb, vr, rfl, hvb, hvr, hO1⟩
    obtain ⟨u1, u2, rfl, _⟩ := hvb.shape
    obtain ⟨u3, u4, rfl, _⟩ := hvr.shape
    generalize v.ty.args.length = m1 at *
    generalize v.kids.length = m2 at *
    have m9 := b1.only hO1 (by simp)
    have hO2 : Only [] w w1 := hO0.trans hO1
    clear hcall a0
    have e0 := m9.cell 0
    have e1 := m9.cell 1
    have e2 := m9.cell 2
    have e3 := m9.cell 3
    have e4 := m9.cell 4
    have f0 := m9.frozen 0
    have f1 := m9.frozen 1
    have f2 := m9.frozen 2
    have f3 := m9.frozen 3
    have f4 := m9.frozen 4
    have h5 := holds_set5 (g := N) (ok' := fun b => w.heap.size ≤ b) hvb (fun b _ h => ⟨by omega, by omega⟩) (.int .i64 v.kind) (.slice u1 m1 u2) (.int .i64 v.ty.base) (.int .i64 v.idx) (.slice u3 m2 u4)
    have h6 := holdsR_set5 (g := N) (ok' := fun b => w.heap.size ≤ b) hvr (fun b _ h => ⟨by omega, by omega⟩) (.int .i64 v.kind) (.slice u1 m1 u2) (.int .i64 v.ty.base) (.int .i64 v.idx) (.slice u3 m2 u4)
    have b5 := (((((m9.set 0 (.int .i64 v.kind)).set 1 (.slice u1 m1 u2)).set 2 (.int .i64 v.ty.base)).set 3 (.int .i64 v.idx)).set 4 (.slice u3 m2 u4))
    have hO5 := (((((hO2.setNew hg9 0 (.int .i64 v.kind)).setNew hg9 1 (.slice u1 m1 u2)).setNew hg9 2 (.int .i64 v.ty.base)).setNew hg9 3 (.int .i64 v.idx)).setNew hg9 4 (.slice u3 m2 u4))
    go_wp2
    generalize (((((w1.setCell ⟨N, 0, none⟩ (.int .i64 v.kind)).setCell ⟨N, 1, none⟩ (.slice u1 m1 u2)).setCell ⟨N, 2, none⟩ (.int .i64 v.ty.base)).setCell ⟨N, 3, none⟩ (.int .i64 v.idx)).setCell ⟨N, 4, none⟩ (.slice u3 m2 u4)) = W5 at *
    have g0 : W5.cell? ⟨N, 0, none⟩ = some (.int .i64 v.kind) := b5.cell 0
    have g1 : W5.cell? ⟨N, 1, none⟩ = some (.slice u1 m1 u2) := b5.cell 1
    have g2 : W5.cell? ⟨N, 2, none⟩ = some (.int .i64 v.ty.base) := b5.cell 2
    have g3 : W5.cell? ⟨N, 3, none⟩ = some (.int .i64 v.idx) := b5.cell 3
    have g4 : W5.cell? ⟨N, 4, none⟩ = some (.slice u3 m2 u4) := b5.cell 4
    exact bodyPost_ret (v := rwv v.kind (.slice u1 m1 u2) v.ty.base v.idx (.slice u3 m2 u4)) (by simp [results, Try.results107, go_sem, g0, g1, g2, g3, g4]) rfl ⟨_, _, rfl, h5, h6, hO5⟩

set_option maxRecDepth 100000 in
set_option maxHeartbeats 1600000 in
theorem grow_calls (t : Rw) (by_ : Int) (ok : Nat → Prop) (sb sr : Value) (w : World) (hb : Holds w ok t.ty.args sb) (ha : HoldsR w ok t.kids sr) (hfit : t.fit) (hsz : t.size ≤ 2000000) :
    Calls Try.prog 98 #[rwv t.kind sb t.ty.base t.idx sr, .int .i64 by_] w (Made [] w (t.grow by_)) := by
  obtain ⟨x1, x2, hx, _⟩ := hb.shape
  obtain ⟨x3, x4, hx', _⟩ := ha.shape
  obtain ⟨N, hN⟩ : ∃ N, w.heap.size = N := ⟨_, rfl⟩
  generalize t.ty.args.length = n1 at hx
  generalize t.kids.length = n2 at hx'
  subst hx hx'
  obtain ⟨W0, hW0⟩ : ∃ W0, ((w.alloc (.cells #[.int .i64 t.kind, .slice x1 n1 x2, .int .i64 t.ty.base, .int .i64 t.idx, .slice x3 n2 x4] 35)).alloc (.cells #[.int .i64 by_] 3)).alloc (.cells #[.int .i64 0, .slice none 0 0, .int .i64 0, .int .i64 0, .slice none 0 0] 35) = W0 := ⟨_, rfl⟩
  have b0 : Blk W0 N 35 #[.int .i64 t.kind, .slice x1 n1 x2, .int .i64 t.ty.base, .int .i64 t.idx, .slice x3 n2 x4] := by rw [← hW0]; exact ((Blk.new' w N 35 _ hN).alloc _).alloc _
  have b2 : Blk W0 (N + 1) 3 #[.int .i64 by_] := by rw [← hW0]; exact (Blk.new' _ (N + 1) 3 _ (by simp [hN])).alloc _
  have b1 : Blk W0 (N + 1 + 1) 35 #[.int .i64 0, .slice none 0 0, .int .i64 0, .int .i64 0, .slice none 0 0] := by rw [← hW0]; exact Blk.new' _ (N + 1 + 1) 35 _ (by simp [hN])
  have bl : Below N w W0 := by rw [← hW0]; exact (((Below.refl N w).alloc (by omega) _).alloc (by simp; omega) _).alloc (by simp; omega) _
  have hO0 : Only [] w W0 := Only.of_below' (by rw [hN]; exact bl)
  have hcall := turn107_calls (.pointer (some ⟨N + 1, 0, none⟩)) W0 (growG by_) (grow1_calls by_ (N + 1) W0 b2) t hfit 0 ok _ _ W0 (Only.refl _ _) (by omega) (hb.bel (hN ▸ bl)) (ha.bel (hN ▸ bl))
  have hz : W0.heap.size = N + 1 + 1 + 1 := by rw [← hW0]; simp [hN]
  have hg9 : w.heap.size ≤ N + 1 + 1 := by omega
  have HW : Hid _ := hW0
  have c0 := b0.cell 0
  have c1 := b0.cell 1
  have c2 := b0.cell 2
  have c3 := b0.cell 3
  have c4 := b0.cell 4
  have HV : Hid (t.turn (growG by_) 0 = t.grow by_) := rfl
  rw [HV.out] at hcall
  obtain ⟨v, hv⟩ : ∃ v, t.grow by_ = v := ⟨_, rfl⟩
  rw [hv] at hcall ⊢
  clear hW0 hb ha hfit HV hv
  go_enter Try.func98, Try.ntmps98
  go_upto_region 1 with fail
  rw [HW.out]
  clear HW
  go_wp2_with fail
  refine hcall.mono ?_
  rintro e w1 ⟨vb, vr, rfl, hvb, hvr, hO1⟩
  obtain ⟨u1, u2, rfl, _⟩ := hvb.shape
  obtain ⟨u3, u4, rfl, _⟩ := hvr.shape
  generalize v.ty.args.length = m1 at *
  generalize v.kids.length = m2 at *
  have m9 := b1.only hO1 (by simp)
  have hO2 : Only [] w w1 := hO0.trans hO1
  clear hcall c0 c1 c2 c3 c4
  have e0 := m9.cell 0
  have e1 := m9.cell 1
  have e2 := m9.cell 2
  have e3 := m9.cell 3
  have e4 := m9.cell 4
  have f0 := m9.frozen 0
  have f1 := m9.frozen 1
  have f2 := m9.frozen 2
  have f3 := m9.frozen 3
  have f4 := m9.frozen 4
  have h5 := holds_set5 (g := N + 1 + 1) (ok' := fun b => w.heap.size ≤ b) hvb (fun b _ h => ⟨by omega, by omega⟩) (.int .i64 v.kind) (.slice u1 m1 u2) (.int .i64 v.ty.base) (.int .i64 v.idx) (.slice u3 m2 u4)
  have h6 := holdsR_set5 (g := N + 1 + 1) (ok' := fun b => w.heap.size ≤ b) hvr (fun b _ h => ⟨by omega, by omega⟩) (.int .i64 v.kind) (.slice u1 m1 u2) (.int .i64 v.ty.base) (.int .i64 v.idx) (.slice u3 m2 u4)
  have b5 := (((((m9.set 0 (.int .i64 v.kind)).set 1 (.slice u1 m1 u2)).set 2 (.int .i64 v.ty.base)).set 3 (.int .i64 v.idx)).set 4 (.slice u3 m2 u4))
  have hO5 := (((((hO2.setNew hg9 0 (.int .i64 v.kind)).setNew hg9 1 (.slice u1 m1 u2)).setNew hg9 2 (.int .i64 v.ty.base)).setNew hg9 3 (.int .i64 v.idx)).setNew hg9 4 (.slice u3 m2 u4))
  go_wp2
  generalize (((((w1.setCell ⟨N + 1 + 1, 0, none⟩ (.int .i64 v.kind)).setCell ⟨N + 1 + 1, 1, none⟩ (.slice u1 m1 u2)).setCell ⟨N + 1 + 1, 2, none⟩ (.int .i64 v.ty.base)).setCell ⟨N + 1 + 1, 3, none⟩ (.int .i64 v.idx)).setCell ⟨N + 1 + 1, 4, none⟩ (.slice u3 m2 u4)) = W5 at *
  have g0 : W5.cell? ⟨N + 1 + 1, 0, none⟩ = some (.int .i64 v.kind) := b5.cell 0
  have g1 : W5.cell? ⟨N + 1 + 1, 1, none⟩ = some (.slice u1 m1 u2) := b5.cell 1
  have g2 : W5.cell? ⟨N + 1 + 1, 2, none⟩ = some (.int .i64 v.ty.base) := b5.cell 2
  have g3 : W5.cell? ⟨N + 1 + 1, 3, none⟩ = some (.int .i64 v.idx) := b5.cell 3
  have g4 : W5.cell? ⟨N + 1 + 1, 4, none⟩ = some (.slice u3 m2 u4) := b5.cell 4
  exact bodyPost_ret (v := rwv v.kind (.slice u1 m1 u2) v.ty.base v.idx (.slice u3 m2 u4)) (by simp [results, Try.results98, go_sem, g0, g1, g2, g3, g4]) rfl ⟨_, _, rfl, h5, h6, hO5⟩

set_option maxRecDepth 100000 in
set_option maxHeartbeats 1600000 in
theorem subst1_calls (t : Rw) (A : Nat) (W : World) (ok : Nat → Prop) (x1 : Option Addr) (n1 x2 : Nat) (x3 : Option Addr) (n2 x4 : Nat) (hA : Blk W A 35 #[.int .i64 t.kind, .slice x1 n1 x2, .int .i64 t.ty.base, .int .i64 t.idx, .slice x3 n2 x4]) (hb : Holds W ok t.ty.args (.slice x1 n1 x2)) (ha : HoldsR W ok t.kids (.slice x3 n2 x4)) (hfit : t.fit) (hsz : t.size ≤ 2000000) : GAt 97 #[.pointer (some ⟨A, 0, none⟩)] W (substG t) := by
  intro i b w hO hbb
  obtain ⟨N, hN⟩ : ∃ N, w.heap.size = N := ⟨_, rfl⟩
  have hA1 := hA.only hO (by simp)
  obtain ⟨W0, hW0⟩ : ∃ W0, w.alloc (.cells #[.int .i64 0, .slice none 0 0, .int .i64 0, .int .i64 0, .slice none 0 0] 35) = W0 := ⟨_, rfl⟩
  have b1 : Blk W0 N 35 #[.int .i64 0, .slice none 0 0, .int .i64 0, .int .i64 0, .slice none 0 0] := by rw [← hW0]; exact Blk.new' _ N 35 _ hN
  have bl : Below N w W0 := by rw [← hW0]; exact (Below.refl N w).alloc (by omega) _
  have hO0 : Only [] w W0 := Only.of_below' (by rw [hN]; exact bl)
  have hA2 := hA1.only hO0 (by simp)
  have hkp : ∀ b, b < W.heap.size → ok b → W0.heap[b]? = W.heap[b]? ∧ ok b := fun b h1 h2 => ⟨(hO.trans hO0).block b h1 (by simp), h2⟩
  have hc1 := grow_calls t (b : Int) ok _ _ W0 (hb.keep hkp) (ha.keep hkp) hfit hsz
  have a0 := hA2.cell 0
  have a1 := hA2.cell 1
  have a2 := hA2.cell 2
  have a3 := hA2.cell 3
  have a4 := hA2.cell 4
  have hz : W0.heap.size = N + 1 := by rw [← hW0]; simp [hN]
  have hg9 : w.heap.size ≤ N := by omega
  have HW : Hid _ := hW0
  clear hW0 hA hA1 hA2 hO hb ha hkp hfit
  by_cases h : i = (b : Int)
  · have z : (i == (b : Int)) = true := by simp [h]
    obtain ⟨v, hv⟩ : ∃ v, substG t i b = v := ⟨_, rfl⟩
    have HV : Hid (t.grow b = v) := by show _ = _; rw [← hv]; unfold substG; rw [if_pos h]
    rw [HV.out] at hc1
    rw [hv]
    clear h hv HV
    go_enter Try.func97, Try.ntmps97
    go_upto_region 1 with fail
    rw [HW.out]
    clear HW
    go_wp2_with fail
    refine hc1.mono ?_
    rintro e w1 ⟨vb, vr, rfl, hvb, hvr, hO1⟩
    obtain ⟨u1, u2, rfl, _⟩ := hvb.shape
    obtain ⟨u3, u4, rfl, _⟩ := hvr.shape
    generalize v.ty.args.length = m1 at *
    generalize v.kids.length = m2 at *
    have m9 := b1.only hO1 (by simp)
    have hO2 : Only [] w w1 := hO0.trans hO1
    clear hc1 a0 a1 a2 a3 a4
    have e0 := m9.cell 0
    have e1 := m9.cell 1
    have e2 := m9.cell 2
    have e3 := m9.cell 3
    have e4 := m9.cell 4
    have f0 := m9.frozen 0
    have f1 := m9.frozen 1
    have f2 := m9.frozen 2
    have f3 := m9.frozen 3
    have f4 := m9.frozen 4
    have h5 := holds_set5 (g := N) (ok' := fun b => w.heap.size ≤ b) hvb (fun b _ h => ⟨by omega, by omega⟩) (.int .i64 v.kind) (.slice u1 m1 u2) (.int .i64 v.ty.base) (.int .i64 v.idx) (.slice u3 m2 u4)
    have h6 := holdsR_set5 (g := N) (ok' := fun b => w.heap.size ≤ b) hvr (fun b _ h => ⟨by omega, by omega⟩) (.int .i64 v.kind) (.slice u1 m1 u2) (.int .i64 v.ty.base) (.int .i64 v.idx) (.slice u3 m2 u4)
    have b5 := (((((m9.set 0 (.int .i64 v.kind)).set 1 (.slice u1 m1 u2)).set 2 (.int .i64 v.ty.base)).set 3 (.int .i64 v.idx)).set 4 (.slice u3 m2 u4))
    have hO5 := (((((hO2.setNew hg9 0 (.int .i64 v.kind)).setNew hg9 1 (.slice u1 m1 u2)).setNew hg9 2 (.int .i64 v.ty.base)).setNew hg9 3 (.int .i64 v.idx)).setNew hg9 4 (.slice u3 m2 u4))
    go_wp2
    generalize (((((w1.setCell ⟨N, 0, none⟩ (.int .i64 v.kind)).setCell ⟨N, 1, none⟩ (.slice u1 m1 u2)).setCell ⟨N, 2, none⟩ (.int .i64 v.ty.base)).setCell ⟨N, 3, none⟩ (.int .i64 v.idx)).setCell ⟨N, 4, none⟩ (.slice u3 m2 u4)) = W5 at *
    have g0 : W5.cell? ⟨N, 0, none⟩ = some (.int .i64 v.kind) := b5.cell 0
    have g1 : W5.cell? ⟨N, 1, none⟩ = some (.slice u1 m1 u2) := b5.cell 1
    have g2 : W5.cell? ⟨N, 2, none⟩ = some (.int .i64 v.ty.base) := b5.cell 2
    have g3 : W5.cell? ⟨N, 3, none⟩ = some (.int .i64 v.idx) := b5.cell 3
    have g4 : W5.cell? ⟨N, 4, none⟩ = some (.slice u3 m2 u4) := b5.cell 4
    exact bodyPost_ret (v := rwv v.kind (.slice u1 m1 u2) v.ty.base v.idx (.slice u3 m2 u4)) (by simp [results, Try.results97, go_sem, g0, g1, g2, g3, g4]) rfl ⟨_, _, rfl, h5, h6, hO5⟩
  · have z : (i == (b : Int)) = false := by simp [h]
    clear hc1
    by_cases h2 : (b : Int) < i
    · have z2 : decide ((b : Int) < i) = true := by simp; omega
      have z2' : decide (i > (b : Int)) = true := by simp; omega
      obtain ⟨v, hv⟩ : ∃ v, substG t i b = v := ⟨_, rfl⟩
      have HV : Hid (hdR 0 (wrap64 (i - 1)) = v) := by show _ = _; rw [← hv]; unfold substG; rw [if_neg h, if_pos h2]
      have hcall := Head_calls 0 (wrap64 (i - 1)) W0
      rw [HV.out] at hcall
      rw [hv]
      clear h h2 hv HV
      go_enter Try.func97, Try.ntmps97
      go_upto_region 1 with fail
      rw [HW.out]
      clear HW
      go_wp2_with fail
      refine hcall.mono ?_
      rintro e w1 ⟨vb, vr, rfl, hvb, hvr, hO1⟩
      obtain ⟨u1, u2, rfl, _⟩ := hvb.shape
      obtain ⟨u3, u4, rfl, _⟩ := hvr.shape
      generalize v.ty.args.length = m1 at *
      generalize v.kids.length = m2 at *
      have m9 := b1.only hO1 (by simp)
      have hO2 : Only [] w w1 := hO0.trans hO1
      clear hcall a0 a1 a2 a3 a4
      have e0 := m9.cell 0
      have e1 := m9.cell 1
      have e2 := m9.cell 2
      have e3 := m9.cell 3
      have e4 := m9.cell 4
      have f0 := m9.frozen 0
      have f1 := m9.frozen 1
      have f2 := m9.frozen 2
      have f3 := m9.frozen 3
      have f4 := m9.frozen 4
      have h5 := holds_set5 (g := N) (ok' := fun b => w.heap.size ≤ b) hvb (fun b _ h => ⟨by omega, by omega⟩) (.int .i64 v.kind) (.slice u1 m1 u2) (.int .i64 v.ty.base) (.int .i64 v.idx) (.slice u3 m2 u4)
      have h6 := holdsR_set5 (g := N) (ok' := fun b => w.heap.size ≤ b) hvr (fun b _ h => ⟨by omega, by omega⟩) (.int .i64 v.kind) (.slice u1 m1 u2) (.int .i64 v.ty.base) (.int .i64 v.idx) (.slice u3 m2 u4)
      have b5 := (((((m9.set 0 (.int .i64 v.kind)).set 1 (.slice u1 m1 u2)).set 2 (.int .i64 v.ty.base)).set 3 (.int .i64 v.idx)).set 4 (.slice u3 m2 u4))
      have hO5 := (((((hO2.setNew hg9 0 (.int .i64 v.kind)).setNew hg9 1 (.slice u1 m1 u2)).setNew hg9 2 (.int .i64 v.ty.base)).setNew hg9 3 (.int .i64 v.idx)).setNew hg9 4 (.slice u3 m2 u4))
      go_wp2
      generalize (((((w1.setCell ⟨N, 0, none⟩ (.int .i64 v.kind)).setCell ⟨N, 1, none⟩ (.slice u1 m1 u2)).setCell ⟨N, 2, none⟩ (.int .i64 v.ty.base)).setCell ⟨N, 3, none⟩ (.int .i64 v.idx)).setCell ⟨N, 4, none⟩ (.slice u3 m2 u4)) = W5 at *
      have g0 : W5.cell? ⟨N, 0, none⟩ = some (.int .i64 v.kind) := b5.cell 0
      have g1 : W5.cell? ⟨N, 1, none⟩ = some (.slice u1 m1 u2) := b5.cell 1
      have g2 : W5.cell? ⟨N, 2, none⟩ = some (.int .i64 v.ty.base) := b5.cell 2
      have g3 : W5.cell? ⟨N, 3, none⟩ = some (.int .i64 v.idx) := b5.cell 3
      have g4 : W5.cell? ⟨N, 4, none⟩ = some (.slice u3 m2 u4) := b5.cell 4
      exact bodyPost_ret (v := rwv v.kind (.slice u1 m1 u2) v.ty.base v.idx (.slice u3 m2 u4)) (by simp [results, Try.results97, go_sem, g0, g1, g2, g3, g4]) rfl ⟨_, _, rfl, h5, h6, hO5⟩
    · have z2 : decide ((b : Int) < i) = false := by simp; omega
      have z2' : decide (i > (b : Int)) = false := by simp; omega
      obtain ⟨v, hv⟩ : ∃ v, substG t i b = v := ⟨_, rfl⟩
      have HV : Hid (hdR 0 i = v) := by show _ = _; rw [← hv]; unfold substG; rw [if_neg h, if_neg h2]
      have hcall := Head_calls 0 i W0
      rw [HV.out] at hcall
      rw [hv]
      clear h h2 hv HV
      go_enter Try.func97, Try.ntmps97
      go_upto_region 1 with fail
      rw [HW.out]
      clear HW
      go_wp2_with fail
      refine hcall.mono ?_
      rintro e w1 ⟨vb, vr, rfl, hvb, hvr, hO1⟩
      obtain ⟨u1, u2, rfl, _⟩ := hvb.shape
      obtain ⟨u3, u4, rfl, _⟩ := hvr.shape
      generalize v.ty.args.length = m1 at *
      generalize v.kids.length = m2 at *
      have m9 := b1.only hO1 (by simp)
      have hO2 : Only [] w w1 := hO0.trans hO1
      clear hcall a0 a1 a2 a3 a4
      have e0 := m9.cell 0
      have e1 := m9.cell 1
      have e2 := m9.cell 2
      have e3 := m9.cell 3
      have e4 := m9.cell 4
      have f0 := m9.frozen 0
      have f1 := m9.frozen 1
      have f2 := m9.frozen 2
      have f3 := m9.frozen 3
      have f4 := m9.frozen 4
      have h5 := holds_set5 (g := N) (ok' := fun b => w.heap.size ≤ b) hvb (fun b _ h => ⟨by omega, by omega⟩) (.int .i64 v.kind) (.slice u1 m1 u2) (.int .i64 v.ty.base) (.int .i64 v.idx) (.slice u3 m2 u4)
      have h6 := holdsR_set5 (g := N) (ok' := fun b => w.heap.size ≤ b) hvr (fun b _ h => ⟨by omega, by omega⟩) (.int .i64 v.kind) (.slice u1 m1 u2) (.int .i64 v.ty.base) (.int .i64 v.idx) (.slice u3 m2 u4)
      have b5 := (((((m9.set 0 (.int .i64 v.kind)).set 1 (.slice u1 m1 u2)).set 2 (.int .i64 v.ty.base)).set 3 (.int .i64 v.idx)).set 4 (.slice u3 m2 u4))
      have hO5 := (((((hO2.setNew hg9 0 (.int .i64 v.kind)).setNew hg9 1 (.slice u1 m1 u2)).setNew hg9 2 (.int .i64 v.ty.base)).setNew hg9 3 (.int .i64 v.idx)).setNew hg9 4 (.slice u3 m2 u4))
      go_wp2
      generalize (((((w1.setCell ⟨N, 0, none⟩ (.int .i64 v.kind)).setCell ⟨N, 1, none⟩ (.slice u1 m1 u2)).setCell ⟨N, 2, none⟩ (.int .i64 v.ty.base)).setCell ⟨N, 3, none⟩ (.int .i64 v.idx)).setCell ⟨N, 4, none⟩ (.slice u3 m2 u4)) = W5 at *
      have g0 : W5.cell? ⟨N, 0, none⟩ = some (.int .i64 v.kind) := b5.cell 0
      have g1 : W5.cell? ⟨N, 1, none⟩ = some (.slice u1 m1 u2) := b5.cell 1
      have g2 : W5.cell? ⟨N, 2, none⟩ = some (.int .i64 v.ty.base) := b5.cell 2
      have g3 : W5.cell? ⟨N, 3, none⟩ = some (.int .i64 v.idx) := b5.cell 3
      have g4 : W5.cell? ⟨N, 4, none⟩ = some (.slice u3 m2 u4) := b5.cell 4
      exact bodyPost_ret (v := rwv v.kind (.slice u1 m1 u2) v.ty.base v.idx (.slice u3 m2 u4)) (by simp [results, Try.results97, go_sem, g0, g1, g2, g3, g4]) rfl ⟨_, _, rfl, h5, h6, hO5⟩

set_option maxRecDepth 100000 in
set_option maxHeartbeats 1600000 in
theorem Subst_calls (t a : Rw) (ok : Nat → Prop) (sb sr sb' sr' : Value) (w : World) (hb : Holds w ok t.ty.args sb) (ha : HoldsR w ok t.kids sr) (hb' : Holds w ok a.ty.args sb') (ha' : HoldsR w ok a.kids sr') (hfit : t.fit) (hsz : t.size ≤ 2000000) (hfit' : a.fit) (hsz' : a.size ≤ 2000000) :
    Calls Try.prog 82 #[rwv t.kind sb t.ty.base t.idx sr, rwv a.kind sb' a.ty.base a.idx sr'] w (Made [] w (substR t a)) := by
  obtain ⟨x1, x2, hx, _⟩ := hb.shape
  obtain ⟨x3, x4, hx', _⟩ := ha.shape
  obtain ⟨y1, y2, hy, _⟩ := hb'.shape
  obtain ⟨y3, y4, hy', _⟩ := ha'.shape
  obtain ⟨N, hN⟩ : ∃ N, w.heap.size = N := ⟨_, rfl⟩
  generalize t.ty.args.length = n1 at hx
  generalize t.kids.length = n2 at hx'
  generalize a.ty.args.length = n3 at hy
  generalize a.kids.length = n4 at hy'
  subst hx hx' hy hy'
  obtain ⟨W0, hW0⟩ : ∃ W0, ((w.alloc (.cells #[.int .i64 t.kind, .slice x1 n1 x2, .int .i64 t.ty.base, .int .i64 t.idx, .slice x3 n2 x4] 35)).alloc (.cells #[.int .i64 a.kind, .slice y1 n3 y2, .int .i64 a.ty.base, .int .i64 a.idx, .slice y3 n4 y4] 35)).alloc (.cells #[.int .i64 0, .slice none 0 0, .int .i64 0, .int .i64 0, .slice none 0 0] 35) = W0 := ⟨_, rfl⟩
  have b0 : Blk W0 N 35 #[.int .i64 t.kind, .slice x1 n1 x2, .int .i64 t.ty.base, .int .i64 t.idx, .slice x3 n2 x4] := by rw [← hW0]; exact ((Blk.new' w N 35 _ hN).alloc _).alloc _
  have b2 : Blk W0 (N + 1) 35 #[.int .i64 a.kind, .slice y1 n3 y2, .int .i64 a.ty.base, .int .i64 a.idx, .slice y3 n4 y4] := by rw [← hW0]; exact (Blk.new' _ (N + 1) 35 _ (by simp [hN])).alloc _
  have b1 : Blk W0 (N + 1 + 1) 35 #[.int .i64 0, .slice none 0 0, .int .i64 0, .int .i64 0, .slice none 0 0] := by rw [← hW0]; exact Blk.new' _ (N + 1 + 1) 35 _ (by simp [hN])
  have bl : Below N w W0 := by rw [← hW0]; exact (((Below.refl N w).alloc (by omega) _).alloc (by simp; omega) _).alloc (by simp; omega) _
  have hO0 : Only [] w W0 := Only.of_below' (by rw [hN]; exact bl)
  have hG := subst1_calls a (N + 1) W0 ok _ _ _ _ _ _ b2 (hb'.bel (hN ▸ bl)) (ha'.bel (hN ▸ bl)) hfit' hsz'
  have hcall := turn97_calls (.pointer (some ⟨N + 1, 0, none⟩)) W0 (substG a) hG t hfit 0 ok _ _ W0 (Only.refl _ _) (by omega) (hb.bel (hN ▸ bl)) (ha.bel (hN ▸ bl))
  have hz : W0.heap.size = N + 1 + 1 + 1 := by rw [← hW0]; simp [hN]
  have hg9 : w.heap.size ≤ N + 1 + 1 := by omega
  have HW : Hid _ := hW0
  have c0 := b0.cell 0
  have c1 := b0.cell 1
  have c2 := b0.cell 2
  have c3 := b0.cell 3
  have c4 := b0.cell 4
  have HV : Hid (t.turn (substG a) 0 = substR t a) := rfl
  rw [HV.out] at hcall
  obtain ⟨v, hv⟩ : ∃ v, substR t a = v := ⟨_, rfl⟩
  rw [hv] at hcall ⊢
  clear hW0 hb ha hb' ha' hfit hfit' hG HV hv
  go_enter Try.func82, Try.ntmps82
  go_upto_region 1 with fail
  rw [HW.out]
  clear HW
  go_wp2_with fail
  refine hcall.mono ?_
  rintro e w1 ⟨vb, vr, rfl, hvb, hvr, hO1⟩
  obtain ⟨u1, u2, rfl, _⟩ := hvb.shape
  obtain ⟨u3, u4, rfl, _⟩ := hvr.shape
  generalize v.ty.args.length = m1 at *
  generalize v.kids.length = m2 at *
  have m9 := b1.only hO1 (by simp)
  have hO2 : Only [] w w1 := hO0.trans hO1
  clear hcall c0 c1 c2 c3 c4
  have e0 := m9.cell 0
  have e1 := m9.cell 1
  have e2 := m9.cell 2
  have e3 := m9.cell 3
  have e4 := m9.cell 4
  have f0 := m9.frozen 0
  have f1 := m9.frozen 1
  have f2 := m9.frozen 2
  have f3 := m9.frozen 3
  have f4 := m9.frozen 4
  have h5 := holds_set5 (g := N + 1 + 1) (ok' := fun b => w.heap.size ≤ b) hvb (fun b _ h => ⟨by omega, by omega⟩) (.int .i64 v.kind) (.slice u1 m1 u2) (.int .i64 v.ty.base) (.int .i64 v.idx) (.slice u3 m2 u4)
  have h6 := holdsR_set5 (g := N + 1 + 1) (ok' := fun b => w.heap.size ≤ b) hvr (fun b _ h => ⟨by omega, by omega⟩) (.int .i64 v.kind) (.slice u1 m1 u2) (.int .i64 v.ty.base) (.int .i64 v.idx) (.slice u3 m2 u4)
  have b5 := (((((m9.set 0 (.int .i64 v.kind)).set 1 (.slice u1 m1 u2)).set 2 (.int .i64 v.ty.base)).set 3 (.int .i64 v.idx)).set 4 (.slice u3 m2 u4))
  have hO5 := (((((hO2.setNew hg9 0 (.int .i64 v.kind)).setNew hg9 1 (.slice u1 m1 u2)).setNew hg9 2 (.int .i64 v.ty.base)).setNew hg9 3 (.int .i64 v.idx)).setNew hg9 4 (.slice u3 m2 u4))
  go_wp2
  generalize (((((w1.setCell ⟨N + 1 + 1, 0, none⟩ (.int .i64 v.kind)).setCell ⟨N + 1 + 1, 1, none⟩ (.slice u1 m1 u2)).setCell ⟨N + 1 + 1, 2, none⟩ (.int .i64 v.ty.base)).setCell ⟨N + 1 + 1, 3, none⟩ (.int .i64 v.idx)).setCell ⟨N + 1 + 1, 4, none⟩ (.slice u3 m2 u4)) = W5 at *
  have g0 : W5.cell? ⟨N + 1 + 1, 0, none⟩ = some (.int .i64 v.kind) := b5.cell 0
  have g1 : W5.cell? ⟨N + 1 + 1, 1, none⟩ = some (.slice u1 m1 u2) := b5.cell 1
  have g2 : W5.cell? ⟨N + 1 + 1, 2, none⟩ = some (.int .i64 v.ty.base) := b5.cell 2
  have g3 : W5.cell? ⟨N + 1 + 1, 3, none⟩ = some (.int .i64 v.idx) := b5.cell 3
  have g4 : W5.cell? ⟨N + 1 + 1, 4, none⟩ = some (.slice u3 m2 u4) := b5.cell 4
  exact bodyPost_ret (v := rwv v.kind (.slice u1 m1 u2) v.ty.base v.idx (.slice u3 m2 u4)) (by simp [results, Try.results82, go_sem, g0, g1, g2, g3, g4]) rfl ⟨_, _, rfl, h5, h6, hO5⟩

end Go.Proofs.Ytckagmagjogmnaa

