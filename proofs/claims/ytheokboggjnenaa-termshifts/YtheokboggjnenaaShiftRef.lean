/-
  The contracts of the document's Up and Shift.
-/
import Derived.Test.YtheokboggjnenaaUpRef
import Derived.Test.YtheokboggjnenaaShiftR
import Derived.Test.YtheokboggjnenaaRefLoose
namespace Go.Proofs.Ytheokboggjnenaa
open Go Go.RowKit Go.Sort

set_option maxRecDepth 100000 in
set_option maxHeartbeats 1000000 in
theorem UpT_calls (t : Tm) (gy fr : Int) (ok : Nat → Prop) (sb sl : Value) (w : World) (hb : Holds w ok t.binds sb) (hh : HoldsT w ok t.args sl) (hsz : t.total ≤ 900000) (hg : ∀ p ∈ t.heads 1 0, grows gy fr p) :
    Calls Try.prog 86 #[tmv sb t.kind t.idx sl, .int .i64 gy, .int .i64 fr] w fun e w' => ∃ vb vr, e = .returned (tmv vb t.kind (shH gy fr t.kind t.idx t.binds.length) vr) ∧ Holds w' (fun c => ok c ∨ w.heap.size ≤ c) t.binds vb ∧ HoldsT w' (fun c => ok c ∨ w.heap.size ≤ c) (t.args.map (shT gy fr t.binds.length)) vr ∧ Below w.heap.size w w' := by
  obtain ⟨x1, x2, rfl, _⟩ := hb.shape
  obtain ⟨x3, x4, rfl, _⟩ := hh.shape
  obtain ⟨bn, hbn⟩ : ∃ n, t.binds.length = n := ⟨_, rfl⟩
  obtain ⟨an, han⟩ : ∃ n, t.args.length = n := ⟨_, rfl⟩
  rw [hbn] at hb ⊢
  rw [han] at hh ⊢
  obtain ⟨N, hN⟩ : ∃ N, w.heap.size = N := ⟨_, rfl⟩
  obtain ⟨W0, hW0⟩ : ∃ W0, (w.alloc (.cells #[.slice x1 bn x2, .int .i64 t.kind, .int .i64 t.idx, .slice x3 an x4] 27)).alloc (.cells #[.slice none 0 0, .int .i64 0, .int .i64 0, .slice none 0 0] 27) = W0 := ⟨_, rfl⟩
  have b0 : Blk W0 N 27 #[.slice x1 bn x2, .int .i64 t.kind, .int .i64 t.idx, .slice x3 an x4] := by rw [← hW0]; exact (Blk.new' _ N 27 _ hN).alloc _
  have b3 : Blk W0 (N + 1) 27 #[.slice none 0 0, .int .i64 0, .int .i64 0, .slice none 0 0] := by rw [← hW0]; exact Blk.new' _ (N + 1) 27 _ (by simp [hN])
  have hz0 : W0.heap.size = N + 2 := by rw [← hW0]; simp [hN]
  have hbl : Below N w W0 := by rw [← hW0]; exact ((Below.refl N w).alloc (by omega) _).alloc (by simp; omega) _
  have hcall := up_calls gy fr t 1 0 (fun c => ok c ∧ c < N) (.slice x1 bn x2) (.slice x3 an x4) W0 hg ((hb.mono fun b h h9 => ⟨h9, by omega⟩ : Holds w (fun c => ok c ∧ c < N) _ _).bel (hN ▸ hbl)) ((hh.mono fun b h h9 => ⟨h9, by omega⟩ : HoldsT w (fun c => ok c ∧ c < N) _ _).bel (hN ▸ hbl)) (by omega) (by omega)
  rw [show ((0 : Nat) : Int) = 0 from rfl, Nat.zero_add] at hcall
  have hul : (t.args.map (shT gy fr t.binds.length)).length = an := by rw [List.length_map]; exact han
  rw [hbn] at hcall hul
  obtain ⟨ki, hki⟩ : ∃ x, shH gy fr t.kind t.idx bn = x := ⟨_, rfl⟩
  obtain ⟨ua, hua⟩ : ∃ x, t.args.map (shT gy fr bn) = x := ⟨_, rfl⟩
  rw [hki, hua] at hcall ⊢
  rw [hua] at hul
  have HW : Hid _ := hW0
  have c0 := b0.cell 0
  have c1 := b0.cell 1
  have c2 := b0.cell 2
  have c3 := b0.cell 3
  rw [hN]
  clear hW0 hb hh hg hki hua
  go_enter Try.func86, Try.ntmps86
  go_upto_region 1 with fail
  rw [HW.out]
  clear HW
  go_wp2_with fail
  refine hcall.mono ?_
  clear hcall
  rintro e w2 ⟨vb, vr, rfl, q1, q2, hb2⟩
  obtain ⟨y1, y2, rfl, _⟩ := q1.shape
  obtain ⟨y3, y4, rfl, _⟩ := q2.shape
  rw [hul] at q2 ⊢
  rw [hbn] at q1 ⊢
  have m9 := b3.below hb2 b3.lt
  have e0 := m9.cell 0
  have e1 := m9.cell 1
  have e2 := m9.cell 2
  have e3 := m9.cell 3
  have f0 := m9.frozen 0
  have f1 := m9.frozen 1
  have f2 := m9.frozen 2
  have f3 := m9.frozen 3
  have hne : ∀ b, b < w2.heap.size → ((ok b ∧ b < N) ∨ W0.heap.size ≤ b) → b ≠ N + 1 ∧ (ok b ∨ N ≤ b) := fun b _ h => by
    rcases h with h | h
    · exact ⟨by omega, .inl h.1⟩
    · exact ⟨by omega, .inr (by omega)⟩
  have b9 := (((m9.set 0 (.slice y1 bn y2)).set 1 (.int .i64 t.kind)).set 2 (.int .i64 ki)).set 3 (.slice y3 an y4)
  have r1 := holds_set4 (g := N + 1) (ok' := fun c => ok c ∨ N ≤ c) q1 hne (.slice y1 bn y2) (.int .i64 t.kind) (.int .i64 ki) (.slice y3 an y4)
  have r2 := holdsT_z (g := N + 1) (ok' := fun c => ok c ∨ N ≤ c) q2 hne (.slice y1 bn y2) (.int .i64 t.kind) (.int .i64 ki) (.slice y3 an y4)
  have r3 : Below N w ((((w2.setCell ⟨N + 1, 0, none⟩ (.slice y1 bn y2)).setCell ⟨N + 1, 1, none⟩ (.int .i64 t.kind)).setCell ⟨N + 1, 2, none⟩ (.int .i64 ki)).setCell ⟨N + 1, 3, none⟩ (.slice y3 an y4)) := bset (bset (bset (bset (hbl.trans (hb2.mono (by omega))) (by omega) _) (by omega) _) (by omega) _) (by omega) _
  clear q1 q2 m9 b3 hul hne
  go_wp2
  generalize (((w2.setCell ⟨N + 1, 0, none⟩ (.slice y1 bn y2)).setCell ⟨N + 1, 1, none⟩ (.int .i64 t.kind)).setCell ⟨N + 1, 2, none⟩ (.int .i64 ki)).setCell ⟨N + 1, 3, none⟩ (.slice y3 an y4) = W5 at *
  have g0 : W5.cell? ⟨N + 1, 0, none⟩ = some (.slice y1 bn y2) := b9.cell 0
  have g1 : W5.cell? ⟨N + 1, 1, none⟩ = some (.int .i64 t.kind) := b9.cell 1
  have g2 : W5.cell? ⟨N + 1, 2, none⟩ = some (.int .i64 ki) := b9.cell 2
  have g3 : W5.cell? ⟨N + 1, 3, none⟩ = some (.slice y3 an y4) := b9.cell 3
  exact bodyPost_ret (v := tmv (.slice y1 bn y2) t.kind ki (.slice y3 an y4)) (by simp [results, Try.results86, go_sem, g0, g1, g2, g3]) rfl ⟨_, _, rfl, r1, r2, r3⟩

def badI (gy fr i : Int) : Bool := decide (fr ≤ i) && decide (gy < fr - i)
def longI (gy fr i : Int) : Bool := decide (fr ≤ i) && decide (1000 - i < gy)
theorem badB_los (gy fr : Int) (l : List Hd) : badB gy fr l = (los l).any (badI gy fr) := by
  induction l with
  | nil => rfl
  | cons p r ih =>
    rw [los_cons, List.any_append, ← ih]
    unfold badB
    rw [List.any_cons]
    cases h : p.out with
    | none => simp
    | some i => simp [badI]
theorem longB_los (gy fr : Int) (l : List Hd) : longB gy fr l = (los l).any (longI gy fr) := by
  induction l with
  | nil => rfl
  | cons p r ih =>
    rw [los_cons, List.any_append, ← ih]
    unfold longB
    rw [List.any_cons]
    cases h : p.out with
    | none => simp
    | some i => simp [longI]

set_option maxRecDepth 100000 in
set_option maxHeartbeats 1600000 in
theorem refShiftT_calls (t : Tm) (gy fr : Int) (sb sl : Value) (w : World) (hb : Holds w okT t.binds sb) (hh : HoldsT w okT t.args sl) (hsz : t.total ≤ 100000) (hrg : t.rng) (hff : fits fr) (hgf : fits gy) :
    Calls Try.prog 46 #[tmv sb t.kind t.idx sl, .int .i64 gy, .int .i64 fr] w fun e w' => ∃ vb vr, e = .returned (.tuple #[tmv vb (shiftT gy fr t).kind (shiftT gy fr t).idx vr, .int .i64 (shiftE gy fr t)]) ∧ Holds w' okT (shiftT gy fr t).binds vb ∧ HoldsT w' okT (shiftT gy fr t).args vr ∧ Below w.heap.size w w' := by
  have HZT : Hid (shiftE gy fr t ≠ 0 → shiftT gy fr t = .mk [] 0 0 []) := fun h => by unfold shiftT; rw [if_neg h]
  have hR1 : Hid (shiftE gy fr t = 0 → shiftT gy fr t = shT gy fr 0 t) := fun h => by unfold shiftT; rw [if_pos h]
  have hgr : Hid (shiftE gy fr t = 0 → 0 ≤ fr ∧ ∀ p ∈ t.heads 1 0, grows gy fr p) := fun h => grows_of hrg (by omega) h
  have HPOS : Hid (∀ i ∈ los (t.heads 1 0), 0 ≤ i ∧ i ≤ 9223372036854775807) := fun i hi => out_pos hi (fun p hp => (rng_heads t hrg 1 0 p hp).2)
  have HBAD := badB_los gy fr (t.heads 1 0)
  have HLONG := longB_los gy fr (t.heads 1 0)
  have hlen := los_length (t.heads 1 0)
  rw [t.heads_length] at hlen
  have hst := t.size_le_total
  obtain ⟨x1, x2, rfl, _⟩ := hb.shape
  obtain ⟨x3, x4, rfl, _⟩ := hh.shape
  obtain ⟨bn, hbn⟩ : ∃ n, t.binds.length = n := ⟨_, rfl⟩
  obtain ⟨an, han⟩ : ∃ n, t.args.length = n := ⟨_, rfl⟩
  rw [hbn] at hb ⊢
  rw [han] at hh ⊢
  obtain ⟨N, hN⟩ : ∃ N, w.heap.size = N := ⟨_, rfl⟩
  obtain ⟨W0, hW0⟩ : ∃ W0, (w.alloc (.cells #[.slice x1 bn x2, .int .i64 t.kind, .int .i64 t.idx, .slice x3 an x4] 27)).alloc (.cells #[.slice none 0 0, .int .i64 0, .int .i64 0, .slice none 0 0] 27) = W0 := ⟨_, rfl⟩
  have b0 : Blk W0 N 27 #[.slice x1 bn x2, .int .i64 t.kind, .int .i64 t.idx, .slice x3 an x4] := by rw [← hW0]; exact (Blk.new' _ N 27 _ hN).alloc _
  have b2 : Blk W0 (N + 1) 27 #[.slice none 0 0, .int .i64 0, .int .i64 0, .slice none 0 0] := by rw [← hW0]; exact Blk.new' _ (N + 1) 27 _ (by simp [hN])
  have hz0 : W0.heap.size = N + 2 := by rw [← hW0]; simp [hN]
  have hbl : Below N w W0 := by rw [← hW0]; exact ((Below.refl N w).alloc (by omega) _).alloc (by simp; omega) _
  have hb0 : Holds W0 (fun c => c ≠ N + 1) t.binds (.slice x1 bn x2) := (hb.mono fun b h _ => by omega : Holds w (fun c => c ≠ N + 1) _ _).bel (hN ▸ hbl)
  have hh0 : HoldsT W0 (fun c => c ≠ N + 1) t.args (.slice x3 an x4) := (hh.mono fun b h _ => by omega : HoldsT w (fun c => c ≠ N + 1) _ _).bel (hN ▸ hbl)
  have HW : Hid _ := hW0
  obtain ⟨hff1, hff2⟩ := hff
  obtain ⟨hgf1, hgf2⟩ := hgf
  rw [hN]
  clear hW0 hb hh
  go_enter Try.func46, Try.ntmps46
  go_upto_region 1 with fail
  rw [HW.out]
  clear HW
  by_cases hf0 : fr < 0
  · have z1 : decide (fr < 0) = true := decide_eq_true hf0
    have HE : Hid (shiftE gy fr t = 1) := by show _ = _; unfold shiftE; rw [if_pos hf0]
    clear hlen HBAD HLONG
    have e0 := b2.cell 0
    have e1 := b2.cell 1
    have e2 := b2.cell 2
    have e3 := b2.cell 3
    have f0 := b2.frozen 0
    have f1 := b2.frozen 1
    have f2 := b2.frozen 2
    have f3 := b2.frozen 3
    have b9 := (((b2.set 0 (.slice none 0 0)).set 1 (.int .i64 0)).set 2 (.int .i64 0)).set 3 (.slice none 0 0)
    have r3 : Below N w ((((W0.setCell ⟨N + 1, 0, none⟩ (.slice none 0 0)).setCell ⟨N + 1, 1, none⟩ (.int .i64 0)).setCell ⟨N + 1, 2, none⟩ (.int .i64 0)).setCell ⟨N + 1, 3, none⟩ (.slice none 0 0)) := bset (bset (bset (bset hbl (by omega) _) (by omega) _) (by omega) _) (by omega) _
    clear b2
    go_wp2
    generalize (((W0.setCell ⟨N + 1, 0, none⟩ (.slice none 0 0)).setCell ⟨N + 1, 1, none⟩ (.int .i64 0)).setCell ⟨N + 1, 2, none⟩ (.int .i64 0)).setCell ⟨N + 1, 3, none⟩ (.slice none 0 0) = W5 at *
    have g0 : W5.cell? ⟨N + 1, 0, none⟩ = some (.slice none 0 0) := b9.cell 0
    have g1 : W5.cell? ⟨N + 1, 1, none⟩ = some (.int .i64 0) := b9.cell 1
    have g2 : W5.cell? ⟨N + 1, 2, none⟩ = some (.int .i64 0) := b9.cell 2
    have g3 : W5.cell? ⟨N + 1, 3, none⟩ = some (.slice none 0 0) := b9.cell 3
    refine bodyPost_ret (v := .tuple #[tmv (.slice none 0 0) 0 0 (.slice none 0 0), .int .i64 1]) (by simp [results, Try.results46, go_sem, g0, g1, g2, g3]) rfl ⟨.slice none 0 0, .slice none 0 0, ?_, ?_, ?_, r3⟩
    · rw [HE.out, HZT.out (by rw [HE.out]; decide)]; rfl
    · rw [HZT.out (by rw [HE.out]; decide)]; exact Holds.nil _ _ _ _ (fun _ => rfl)
    · rw [HZT.out (by rw [HE.out]; decide)]; exact HoldsT.nil _ _ _ _ (fun _ => rfl)
  have z1 : decide (fr < 0) = false := decide_eq_false hf0
  have HSE : Hid (shiftE gy fr t = errI gy fr (t.heads 1 0)) := by show _ = _; unfold shiftE; rw [if_neg hf0]
  have hcall := refLoosesT_calls t _ _ _ W0 hb0 hh0 hsz hrg
  obtain ⟨L, hL⟩ : ∃ L, los (t.heads 1 0) = L := ⟨_, rfl⟩
  rw [hL] at HPOS hlen hcall HBAD HLONG
  have HEB : Hid (errI gy fr (t.heads 1 0) = if L.any (badI gy fr) then 1 else if L.any (longI gy fr) then 2 else 0) := by show _ = _; unfold errI; rw [HBAD, HLONG]
  obtain ⟨n, hn⟩ : ∃ n, L.length = n := ⟨_, rfl⟩
  rw [hn] at hlen hcall
  have HN : Hid (L.length = n) := hn
  have hn9 : n ≤ 100000 := by omega
  have c0 := b0.cell 0
  have c1 := b0.cell 1
  have c2 := b0.cell 2
  have c3 := b0.cell 3
  clear hL hn hlen hst HBAD HLONG
  go_wp2_with fail
  refine hcall.mono ?_
  rintro e w2 ⟨v, rfl, h1, _, h3⟩
  have hbl2 : Below N w w2 := hbl.trans (h3.mono (by omega))
  have hform : ∃ g c, v = .slice g n c ∧ (∀ i x, L[i]? = some x → ∃ b, g = some ⟨b, 0, none⟩ ∧ w2.cell? ⟨b, i, none⟩ = some (.int .i64 x)) := by
    rcases h1.2 with ⟨e1, e2⟩ | ⟨g, cap, cur, e1, e2, e3, e4, e5, e6⟩
    · refine ⟨none, 0, by rw [e1, e2], fun i x hi => ?_⟩
      have := (List.getElem?_eq_some_iff.1 hi).1
      rw [HN.out] at this
      omega
    · refine ⟨some ⟨g, 0, none⟩, cap, e1, fun i x hi => ⟨g, rfl, ?_⟩⟩
      subst e1
      have hil := (List.getElem?_eq_some_iff.1 hi).1
      rw [HN.out] at hil
      exact (World.ownsRow.cellAt h1 i (by omega)).trans (ints_get2 L i x hi)
  obtain ⟨g, c, rfl, hat⟩ := hform
  have HAT : Hid _ := hat
  have b0 := b0.below h3 b0.lt
  have b2 := b2.below h3 b2.lt
  have hb2 := hb0.bel h3
  have hh2 := hh0.bel h3
  have hbl := hbl2
  clear hat hcall h1 h3 hbl2 c0 c1 c2 c3 hb0 hh0
  go_wp2_with fail
  go_loopw [9, 10] (fun s i wr => ∃ k : Nat, k ≤ n ∧ i = .int .i64 k ∧ s = .bool ((L.take k).any (longI gy fr)) ∧ Hid ((L.take k).any (badI gy fr) = false) ∧ wr = w2) (fun _ i _ => n - (intOf i).toNat)
  case atStart => exact ⟨0, Nat.zero_le _, rfl, rfl, rfl, rfl⟩
  case round =>
    obtain ⟨k, hk, rfl, rfl, HB, rfl⟩ := hrel
    by_cases hlt : k < n
    · obtain ⟨x, hx⟩ : ∃ x, L[k]? = some x := ⟨_, List.getElem?_eq_getElem (by rw [HN.out]; exact hlt)⟩
      obtain ⟨b, rfl, q0⟩ := HAT.out k x hx
      obtain ⟨hxp, hxq⟩ := HPOS.out x (List.mem_of_getElem? hx)
      have HS1 : Hid ((L.take (k + 1)).any (badI gy fr) = badI gy fr x) := by show _ = _; rw [List.take_add_one, hx, List.any_append, HB.out]; simp
      obtain ⟨lg, hlg⟩ : ∃ s, (L.take k).any (longI gy fr) = s := ⟨_, rfl⟩
      have HS2 : Hid ((L.take (k + 1)).any (longI gy fr) = (lg || longI gy fr x)) := by show _ = _; rw [List.take_add_one, hx, List.any_append, hlg]; simp
      have HBE : Hid (badI gy fr x = true → shiftE gy fr t = 1) := fun h => by
        have h9 : L.any (badI gy fr) = true := List.any_eq_true.2 ⟨x, List.mem_of_getElem? hx, h⟩
        rw [HSE.out, HEB.out, h9]
        rfl
      rw [hlg]
      have y1 : (0 : Int) ≤ (k : Int) := by omega
      have y2 : (k : Int) < (n : Int) := by omega
      clear hlg hx
      by_cases e1 : x < fr
      · have z2 : decide (x < fr) = true := decide_eq_true e1
        have H1 : Hid (badI gy fr x = false) := by show _ = _; unfold badI; rw [decide_eq_false (by omega), Bool.false_and]
        have H2 : Hid (longI gy fr x = false) := by show _ = _; unfold longI; rw [decide_eq_false (by omega), Bool.false_and]
        go_wp2
        go_roundw
        case rel => exact ⟨k + 1, by omega, by go_num, by rw [HS2.out, H2.out, Bool.or_false], by show _ = _; rw [HS1.out, H1.out], trivial⟩
        case measure => simp [intOf]; omega
      · have z2 : decide (x < fr) = false := decide_eq_false e1
        by_cases e2 : gy = -9223372036854775808
        · have z3 : (gy == -9223372036854775808) = true := by simp [e2]
          have HE : Hid (shiftE gy fr t = 1) := HBE.out (by unfold badI; rw [decide_eq_true (by omega), decide_eq_true (by omega)]; rfl)
          clear e2
          have e0 := b2.cell 0
          have e1 := b2.cell 1
          have e2 := b2.cell 2
          have e3 := b2.cell 3
          have f0 := b2.frozen 0
          have f1 := b2.frozen 1
          have f2 := b2.frozen 2
          have f3 := b2.frozen 3
          have b9 := (((b2.set 0 (.slice none 0 0)).set 1 (.int .i64 0)).set 2 (.int .i64 0)).set 3 (.slice none 0 0)
          have r3 : Below N w ((((wr.setCell ⟨N + 1, 0, none⟩ (.slice none 0 0)).setCell ⟨N + 1, 1, none⟩ (.int .i64 0)).setCell ⟨N + 1, 2, none⟩ (.int .i64 0)).setCell ⟨N + 1, 3, none⟩ (.slice none 0 0)) := bset (bset (bset (bset hbl (by omega) _) (by omega) _) (by omega) _) (by omega) _
          clear b2
          go_wp2
          generalize (((wr.setCell ⟨N + 1, 0, none⟩ (.slice none 0 0)).setCell ⟨N + 1, 1, none⟩ (.int .i64 0)).setCell ⟨N + 1, 2, none⟩ (.int .i64 0)).setCell ⟨N + 1, 3, none⟩ (.slice none 0 0) = W5 at *
          have g0 : W5.cell? ⟨N + 1, 0, none⟩ = some (.slice none 0 0) := b9.cell 0
          have g1 : W5.cell? ⟨N + 1, 1, none⟩ = some (.int .i64 0) := b9.cell 1
          have g2 : W5.cell? ⟨N + 1, 2, none⟩ = some (.int .i64 0) := b9.cell 2
          have g3 : W5.cell? ⟨N + 1, 3, none⟩ = some (.slice none 0 0) := b9.cell 3
          refine bodyPost_ret (v := .tuple #[tmv (.slice none 0 0) 0 0 (.slice none 0 0), .int .i64 1]) (by simp [results, Try.results46, go_sem, g0, g1, g2, g3]) rfl ⟨.slice none 0 0, .slice none 0 0, ?_, ?_, ?_, r3⟩
          · rw [HE.out, HZT.out (by rw [HE.out]; decide)]; rfl
          · rw [HZT.out (by rw [HE.out]; decide)]; exact Holds.nil _ _ _ _ (fun _ => rfl)
          · rw [HZT.out (by rw [HE.out]; decide)]; exact HoldsT.nil _ _ _ _ (fun _ => rfl)
        · have z3 : (gy == -9223372036854775808) = false := by simp [e2]
          have hn1 : wrap64 (-gy) = -gy := by unfold wrap64; omega
          have hn2 : IntKind.i64.wrap (-gy) = -gy := by rw [IntKind.wrap_i64]; omega
          by_cases e3 : gy < 0
          · have z4 : decide (gy < 0) = true := decide_eq_true e3
            by_cases e4 : x - fr < -gy
            · have z5 : decide (x - fr < -gy) = true := decide_eq_true e4
              have HE : Hid (shiftE gy fr t = 1) := HBE.out (by unfold badI; rw [decide_eq_true (by omega), decide_eq_true (by omega)]; rfl)
              have e0 := b2.cell 0
              have e1 := b2.cell 1
              have e2 := b2.cell 2
              have e3 := b2.cell 3
              have f0 := b2.frozen 0
              have f1 := b2.frozen 1
              have f2 := b2.frozen 2
              have f3 := b2.frozen 3
              have b9 := (((b2.set 0 (.slice none 0 0)).set 1 (.int .i64 0)).set 2 (.int .i64 0)).set 3 (.slice none 0 0)
              have r3 : Below N w ((((wr.setCell ⟨N + 1, 0, none⟩ (.slice none 0 0)).setCell ⟨N + 1, 1, none⟩ (.int .i64 0)).setCell ⟨N + 1, 2, none⟩ (.int .i64 0)).setCell ⟨N + 1, 3, none⟩ (.slice none 0 0)) := bset (bset (bset (bset hbl (by omega) _) (by omega) _) (by omega) _) (by omega) _
              clear b2
              go_wp2
              generalize (((wr.setCell ⟨N + 1, 0, none⟩ (.slice none 0 0)).setCell ⟨N + 1, 1, none⟩ (.int .i64 0)).setCell ⟨N + 1, 2, none⟩ (.int .i64 0)).setCell ⟨N + 1, 3, none⟩ (.slice none 0 0) = W5 at *
              have g0 : W5.cell? ⟨N + 1, 0, none⟩ = some (.slice none 0 0) := b9.cell 0
              have g1 : W5.cell? ⟨N + 1, 1, none⟩ = some (.int .i64 0) := b9.cell 1
              have g2 : W5.cell? ⟨N + 1, 2, none⟩ = some (.int .i64 0) := b9.cell 2
              have g3 : W5.cell? ⟨N + 1, 3, none⟩ = some (.slice none 0 0) := b9.cell 3
              refine bodyPost_ret (v := .tuple #[tmv (.slice none 0 0) 0 0 (.slice none 0 0), .int .i64 1]) (by simp [results, Try.results46, go_sem, g0, g1, g2, g3]) rfl ⟨.slice none 0 0, .slice none 0 0, ?_, ?_, ?_, r3⟩
              · rw [HE.out, HZT.out (by rw [HE.out]; decide)]; rfl
              · rw [HZT.out (by rw [HE.out]; decide)]; exact Holds.nil _ _ _ _ (fun _ => rfl)
              · rw [HZT.out (by rw [HE.out]; decide)]; exact HoldsT.nil _ _ _ _ (fun _ => rfl)
            · have z5 : decide (x - fr < -gy) = false := decide_eq_false e4
              have H1 : Hid (badI gy fr x = false) := by show _ = _; unfold badI; rw [decide_eq_false (p := gy < fr - x) (by omega), Bool.and_false]
              have z6 : decide (gy > 1000) = false := decide_eq_false (by omega)
              have z7 : decide (gy > 0) = false := decide_eq_false (by omega)
              have z8 : decide (gy ≤ 0) = true := decide_eq_true (by omega)
              by_cases e5 : x + gy > 1000
              · have z9 : decide (x + gy > 1000) = true := decide_eq_true e5
                have H2 : Hid (longI gy fr x = true) := by show _ = _; unfold longI; rw [decide_eq_true (by omega), decide_eq_true (by omega)]; rfl
                go_wp2
                go_roundw
                case rel => exact ⟨k + 1, by omega, by go_num, by rw [HS2.out, H2.out, Bool.or_true], by show _ = _; rw [HS1.out, H1.out], trivial⟩
                case measure => simp [intOf]; omega
              · have z9 : decide (x + gy > 1000) = false := decide_eq_false e5
                have H2 : Hid (longI gy fr x = false) := by show _ = _; unfold longI; rw [decide_eq_false (p := 1000 - x < gy) (by omega), Bool.and_false]
                go_wp2
                go_roundw
                case rel => exact ⟨k + 1, by omega, by go_num, by rw [HS2.out, H2.out, Bool.or_false], by show _ = _; rw [HS1.out, H1.out], trivial⟩
                case measure => simp [intOf]; omega
          · have z4 : decide (gy < 0) = false := decide_eq_false e3
            have H1 : Hid (badI gy fr x = false) := by show _ = _; unfold badI; rw [decide_eq_false (p := gy < fr - x) (by omega), Bool.and_false]
            by_cases e4 : gy > 1000
            · have z6 : decide (gy > 1000) = true := decide_eq_true e4
              have H2 : Hid (longI gy fr x = true) := by show _ = _; unfold longI; rw [decide_eq_true (by omega), decide_eq_true (by omega)]; rfl
              go_wp2
              go_roundw
              case rel => exact ⟨k + 1, by omega, by go_num, by rw [HS2.out, H2.out, Bool.or_true], by show _ = _; rw [HS1.out, H1.out], trivial⟩
              case measure => simp [intOf]; omega
            · have z6 : decide (gy > 1000) = false := decide_eq_false e4
              by_cases e5 : gy > 0
              · have z7 : decide (gy > 0) = true := decide_eq_true e5
                have z8 : decide (gy ≤ 0) = false := decide_eq_false (by omega)
                by_cases e6 : x > 1000 - gy
                · have z9 : decide (x > 1000 - gy) = true := decide_eq_true e6
                  have H2 : Hid (longI gy fr x = true) := by show _ = _; unfold longI; rw [decide_eq_true (by omega), decide_eq_true (by omega)]; rfl
                  go_wp2
                  go_roundw
                  case rel => exact ⟨k + 1, by omega, by go_num, by rw [HS2.out, H2.out, Bool.or_true], by show _ = _; rw [HS1.out, H1.out], trivial⟩
                  case measure => simp [intOf]; omega
                · have z9 : decide (x > 1000 - gy) = false := decide_eq_false e6
                  have H2 : Hid (longI gy fr x = false) := by show _ = _; unfold longI; rw [decide_eq_false (p := 1000 - x < gy) (by omega), Bool.and_false]
                  go_wp2
                  go_roundw
                  case rel => exact ⟨k + 1, by omega, by go_num, by rw [HS2.out, H2.out, Bool.or_false], by show _ = _; rw [HS1.out, H1.out], trivial⟩
                  case measure => simp [intOf]; omega
              · have z7 : decide (gy > 0) = false := decide_eq_false e5
                have z8 : decide (gy ≤ 0) = true := decide_eq_true (by omega)
                by_cases e6 : x + gy > 1000
                · have z9 : decide (x + gy > 1000) = true := decide_eq_true e6
                  have H2 : Hid (longI gy fr x = true) := by show _ = _; unfold longI; rw [decide_eq_true (by omega), decide_eq_true (by omega)]; rfl
                  go_wp2
                  go_roundw
                  case rel => exact ⟨k + 1, by omega, by go_num, by rw [HS2.out, H2.out, Bool.or_true], by show _ = _; rw [HS1.out, H1.out], trivial⟩
                  case measure => simp [intOf]; omega
                · have z9 : decide (x + gy > 1000) = false := decide_eq_false e6
                  have H2 : Hid (longI gy fr x = false) := by show _ = _; unfold longI; rw [decide_eq_false (p := 1000 - x < gy) (by omega), Bool.and_false]
                  go_wp2
                  go_roundw
                  case rel => exact ⟨k + 1, by omega, by go_num, by rw [HS2.out, H2.out, Bool.or_false], by show _ = _; rw [HS1.out, H1.out], trivial⟩
                  case measure => simp [intOf]; omega
    · obtain rfl : k = n := by omega
      have hT : L.take k = L := List.take_of_length_le (by rw [HN.out]; exact Nat.le_refl _)
      rw [hT] at HB
      rw [hT]
      obtain ⟨lg, hlg⟩ : ∃ s, L.any (longI gy fr) = s := ⟨_, rfl⟩
      rw [hlg]
      cases lg with
      | true =>
        have HE : Hid (shiftE gy fr t = 2) := by show _ = _; rw [HSE.out, HEB.out, HB.out, hlg]; rfl
        clear hlg hT
        have e0 := b2.cell 0
        have e1 := b2.cell 1
        have e2 := b2.cell 2
        have e3 := b2.cell 3
        have f0 := b2.frozen 0
        have f1 := b2.frozen 1
        have f2 := b2.frozen 2
        have f3 := b2.frozen 3
        have b9 := (((b2.set 0 (.slice none 0 0)).set 1 (.int .i64 0)).set 2 (.int .i64 0)).set 3 (.slice none 0 0)
        have r3 : Below N w ((((wr.setCell ⟨N + 1, 0, none⟩ (.slice none 0 0)).setCell ⟨N + 1, 1, none⟩ (.int .i64 0)).setCell ⟨N + 1, 2, none⟩ (.int .i64 0)).setCell ⟨N + 1, 3, none⟩ (.slice none 0 0)) := bset (bset (bset (bset hbl (by omega) _) (by omega) _) (by omega) _) (by omega) _
        clear b2
        go_wp2
        generalize (((wr.setCell ⟨N + 1, 0, none⟩ (.slice none 0 0)).setCell ⟨N + 1, 1, none⟩ (.int .i64 0)).setCell ⟨N + 1, 2, none⟩ (.int .i64 0)).setCell ⟨N + 1, 3, none⟩ (.slice none 0 0) = W5 at *
        have g0 : W5.cell? ⟨N + 1, 0, none⟩ = some (.slice none 0 0) := b9.cell 0
        have g1 : W5.cell? ⟨N + 1, 1, none⟩ = some (.int .i64 0) := b9.cell 1
        have g2 : W5.cell? ⟨N + 1, 2, none⟩ = some (.int .i64 0) := b9.cell 2
        have g3 : W5.cell? ⟨N + 1, 3, none⟩ = some (.slice none 0 0) := b9.cell 3
        refine bodyPost_ret (v := .tuple #[tmv (.slice none 0 0) 0 0 (.slice none 0 0), .int .i64 2]) (by simp [results, Try.results46, go_sem, g0, g1, g2, g3]) rfl ⟨.slice none 0 0, .slice none 0 0, ?_, ?_, ?_, r3⟩
        · rw [HE.out, HZT.out (by rw [HE.out]; decide)]; rfl
        · rw [HZT.out (by rw [HE.out]; decide)]; exact Holds.nil _ _ _ _ (fun _ => rfl)
        · rw [HZT.out (by rw [HE.out]; decide)]; exact HoldsT.nil _ _ _ _ (fun _ => rfl)
      | false =>
        have HE : Hid (shiftE gy fr t = 0) := by show _ = _; rw [HSE.out, HEB.out, HB.out, hlg]; rfl
        clear hlg hT
        have hg := hgr.out HE.out
        have c0 := b0.cell 0
        have c1 := b0.cell 1
        have c2 := b0.cell 2
        have c3 := b0.cell 3
        have hcall := UpT_calls t gy fr (fun c => c ≠ N + 1) (.slice x1 t.binds.length x2) (.slice x3 t.args.length x4) wr (by rw [hbn]; exact hb2) (by rw [han]; exact hh2) (by omega) hg.2
        rw [hbn, han] at hcall
        have hul : (t.args.map (shT gy fr bn)).length = an := by rw [List.length_map]; exact han
        have hws := b2.lt
        obtain ⟨ki, hki⟩ : ∃ x, shH gy fr t.kind t.idx bn = x := ⟨_, rfl⟩
        have HKI : Hid _ := hki
        obtain ⟨ua, hua⟩ : ∃ x, t.args.map (shT gy fr bn) = x := ⟨_, rfl⟩
        have HUA : Hid _ := hua
        rw [hki, hua] at hcall
        rw [hua] at hul
        clear hg hki hua b0
        go_wp2_with fail
        refine hcall.mono ?_
        clear hcall
        rintro e w3 ⟨vb, vr, rfl, q1, q2, hb3⟩
        obtain ⟨y1, y2, rfl, _⟩ := q1.shape
        obtain ⟨y3, y4, rfl, _⟩ := q2.shape
        rw [hul] at q2 ⊢
        rw [hbn] at q1 ⊢
        have m9 := b2.below hb3 b2.lt
        have e0 := m9.cell 0
        have e1 := m9.cell 1
        have e2 := m9.cell 2
        have e3 := m9.cell 3
        have f0 := m9.frozen 0
        have f1 := m9.frozen 1
        have f2 := m9.frozen 2
        have f3 := m9.frozen 3
        have hne : ∀ b, b < w3.heap.size → (b ≠ N + 1 ∨ wr.heap.size ≤ b) → b ≠ N + 1 ∧ okT b := fun b _ h => ⟨by omega, trivial⟩
        have b9 := (((m9.set 0 (.slice y1 bn y2)).set 1 (.int .i64 t.kind)).set 2 (.int .i64 ki)).set 3 (.slice y3 an y4)
        have r1 := holds_set4 (g := N + 1) (ok' := okT) q1 hne (.slice y1 bn y2) (.int .i64 t.kind) (.int .i64 ki) (.slice y3 an y4)
        have r2 := holdsT_z (g := N + 1) (ok' := okT) q2 hne (.slice y1 bn y2) (.int .i64 t.kind) (.int .i64 ki) (.slice y3 an y4)
        have r3 : Below N w ((((w3.setCell ⟨N + 1, 0, none⟩ (.slice y1 bn y2)).setCell ⟨N + 1, 1, none⟩ (.int .i64 t.kind)).setCell ⟨N + 1, 2, none⟩ (.int .i64 ki)).setCell ⟨N + 1, 3, none⟩ (.slice y3 an y4)) := bset (bset (bset (bset (hbl.trans (hb3.mono (by omega))) (by omega) _) (by omega) _) (by omega) _) (by omega) _
        clear q1 q2 m9 b2 hul hne
        go_wp2
        generalize (((w3.setCell ⟨N + 1, 0, none⟩ (.slice y1 bn y2)).setCell ⟨N + 1, 1, none⟩ (.int .i64 t.kind)).setCell ⟨N + 1, 2, none⟩ (.int .i64 ki)).setCell ⟨N + 1, 3, none⟩ (.slice y3 an y4) = W5 at *
        have g0 : W5.cell? ⟨N + 1, 0, none⟩ = some (.slice y1 bn y2) := b9.cell 0
        have g1 : W5.cell? ⟨N + 1, 1, none⟩ = some (.int .i64 t.kind) := b9.cell 1
        have g2 : W5.cell? ⟨N + 1, 2, none⟩ = some (.int .i64 ki) := b9.cell 2
        have g3 : W5.cell? ⟨N + 1, 3, none⟩ = some (.slice y3 an y4) := b9.cell 3
        refine bodyPost_ret (v := .tuple #[tmv (.slice y1 bn y2) t.kind ki (.slice y3 an y4), .int .i64 0]) (by simp [results, Try.results46, go_sem, g0, g1, g2, g3]) rfl ⟨.slice y1 bn y2, .slice y3 an y4, ?_, ?_, ?_, r3⟩
        · rw [hR1.out HE.out, shT_idx, shT_kind, HE.out, hbn, Nat.zero_add, HKI.out]
        · rw [hR1.out HE.out, shT_binds]; exact r1
        · rw [hR1.out HE.out, shT_args, hbn, Nat.zero_add, HUA.out]; exact r2

end Go.Proofs.Ytheokboggjnenaa
