/-
  The contracts of the document's Heads and Count.
-/
import Derived.Test.YtheokboggjnenaaRefHeads
import Derived.Deep.QuietTactic
import Derived.BigQuiet
namespace Go.Proofs.Ytheokboggjnenaa
open Go Go.RowKit Go.Sort

theorem bel_drewN {n : Nat} {a w : World} (h : Below n a w) (k : Nat) : Below n a (w.drewN k) := ⟨h.os, h.tape, h.output, h.size, h.block⟩

set_option maxRecDepth 100000 in
set_option maxHeartbeats 800000 in
theorem refHeadsT_calls (t : Tm) (ok : Nat → Prop) (sb sl : Value) (w : World) (hb : Holds w ok t.binds sb) (hh : HoldsT w ok t.args sl) (hsz : t.total ≤ 100000) (hrg : t.rng) :
    Calls Try.prog 61 #[tmv sb t.kind t.idx sl] w fun e w' => ∃ v, e = .returned v ∧ w'.ownsRow w.heap.size 24 2 v (viss (t.heads 1 0)).length (hcs (viss (t.heads 1 0))) ∧ (viss (t.heads 1 0) = [] → v = .slice none 0 0) ∧ Below w.heap.size w w' := by
  obtain ⟨x1, x2, rfl, _⟩ := hb.shape
  obtain ⟨x3, x4, rfl, _⟩ := hh.shape
  obtain ⟨bn, hbn⟩ : ∃ n, t.binds.length = n := ⟨_, rfl⟩
  obtain ⟨an, han⟩ : ∃ n, t.args.length = n := ⟨_, rfl⟩
  rw [hbn] at hb ⊢
  rw [han] at hh ⊢
  obtain ⟨N, hN⟩ : ∃ N, w.heap.size = N := ⟨_, rfl⟩
  have hcall := refHeads_calls t 1 0 ok _ _ (w.alloc (.cells #[.slice x1 bn x2, .int .i64 t.kind, .int .i64 t.idx, .slice x3 an x4] 27)) (hb.alloc _) (hh.alloc _) hsz (by omega) hrg
  have b1 := Blk.new' w N 27 #[.slice x1 bn x2, .int .i64 t.kind, .int .i64 t.idx, .slice x3 an x4] hN
  have c0 := b1.cell 0
  have c1 := b1.cell 1
  have c2 := b1.cell 2
  have c3 := b1.cell 3
  rw [hN]
  have hbl : Below N w (w.alloc (.cells #[.slice x1 bn x2, .int .i64 t.kind, .int .i64 t.idx, .slice x3 an x4] 27)) := (Below.refl N w).alloc (by omega) _
  have hsz1 : (w.alloc (.cells #[.slice x1 bn x2, .int .i64 t.kind, .int .i64 t.idx, .slice x3 an x4] 27)).heap.size = N + 1 := by simp [hN]
  rw [hsz1] at hcall
  rw [show ((0 : Nat) : Int) = 0 from rfl] at hcall
  clear b1 hsz1
  go_enter Try.func61, Try.ntmps61
  go_wp2_with fail
  refine hcall.mono ?_
  rintro e w2 ⟨v, rfl, h1, h2, h3⟩
  go_wp2
  go_ret
  exact ⟨_, rfl, row_mono h1 (by omega), h2, hbl.trans (h3.mono (by omega))⟩

/-- What a row of heads looks like. -/
theorem hrow_form {w : World} {M n : Nat} {v : Value} {L : List (Int × Int)} (h : w.ownsRow M 24 2 v n (hcs L)) (hn : L.length = n) : ∃ g c, v = .slice g n c ∧ n ≤ c ∧ ∀ (i : Nat) x, L[i]? = some x → ∃ b, g = some ⟨b, 0, none⟩ ∧ w.cell? ⟨b, i * 2, none⟩ = some (.int .i64 x.1) ∧ w.cell? ⟨b, i * 2 + 1, none⟩ = some (.int .i64 x.2) := by
  rcases h.2 with ⟨e1, e2⟩ | ⟨g, cap, cur, e1, e2, e3, e4, e5, e6⟩
  · refine ⟨none, 0, by rw [e1, e2], by omega, fun i x hi => ?_⟩
    have := (List.getElem?_eq_some_iff.1 hi).1
    omega
  · refine ⟨some ⟨g, 0, none⟩, cap, e1, e4, fun i x hi => ?_⟩
    subst e1
    have hil := (List.getElem?_eq_some_iff.1 hi).1
    have hc := World.ownsRow.cellAt h
    have h9 := hcs_get L i x hi
    exact ⟨g, rfl, (hc (i * 2) (by omega)).trans h9.1, (hc (i * 2 + 1) (by omega)).trans h9.2⟩

set_option maxRecDepth 100000 in
set_option maxHeartbeats 1600000 in
theorem refCountT_calls (t : Tm) (hk hi : Int) (ok : Nat → Prop) (sb sl : Value) (w : World) (hb : Holds w ok t.binds sb) (hh : HoldsT w ok t.args sl) (hsz : t.total ≤ 100000) (hrg : t.rng) :
    Calls Try.prog 24 #[tmv sb t.kind t.idx sl, hv hk hi] w fun e w' => e = .returned (.int .i64 ((viss (t.heads 1 0)).count (hk, hi) : Nat)) ∧ Below w.heap.size w w' := by
  have hlen := viss_length (t.heads 1 0)
  rw [t.heads_length] at hlen
  have hst := t.size_le_total
  obtain ⟨x1, x2, rfl, _⟩ := hb.shape
  obtain ⟨x3, x4, rfl, _⟩ := hh.shape
  obtain ⟨bn, hbn⟩ : ∃ n, t.binds.length = n := ⟨_, rfl⟩
  obtain ⟨an, han⟩ : ∃ n, t.args.length = n := ⟨_, rfl⟩
  rw [hbn] at hb ⊢
  rw [han] at hh ⊢
  obtain ⟨N, hN⟩ : ∃ N, w.heap.size = N := ⟨_, rfl⟩
  obtain ⟨W1, hW1⟩ : ∃ W1, (w.alloc (.cells #[.slice x1 bn x2, .int .i64 t.kind, .int .i64 t.idx, .slice x3 an x4] 27)).alloc (.cells #[.int .i64 hk, .int .i64 hi] 24) = W1 := ⟨_, rfl⟩
  have b1 : Blk W1 N 27 #[.slice x1 bn x2, .int .i64 t.kind, .int .i64 t.idx, .slice x3 an x4] := by rw [← hW1]; exact (Blk.new' w N 27 _ hN).alloc _
  have b2 : Blk W1 (N + 1) 24 #[.int .i64 hk, .int .i64 hi] := by rw [← hW1]; exact Blk.new' _ (N + 1) 24 _ (by simp [hN])
  have hbl : Below N w W1 := by rw [← hW1]; exact ((Below.refl N w).alloc (by omega) _).alloc (by simp; omega) _
  have hcall := refHeadsT_calls t ok (.slice x1 bn x2) (.slice x3 an x4) W1 (hb.bel (hN ▸ hbl)) (hh.bel (hN ▸ hbl)) hsz hrg
  have c0 := b1.cell 0
  have c1 := b1.cell 1
  have c2 := b1.cell 2
  have c3 := b1.cell 3
  rw [hN]
  obtain ⟨L, hL⟩ : ∃ L, viss (t.heads 1 0) = L := ⟨_, rfl⟩
  rw [hL] at hlen hcall ⊢
  obtain ⟨n, hn⟩ : ∃ n, L.length = n := ⟨_, rfl⟩
  rw [hn] at hlen hcall
  have HN : Hid (L.length = n) := hn
  have hn9 : n ≤ 100000 := by omega
  have HW : Hid _ := hW1
  clear b1 hL hn hlen hst hW1
  go_enter Try.func24, Try.ntmps24
  go_upto_region 1 with fail
  rw [HW.out]
  clear HW
  go_wp2_with fail
  refine hcall.mono ?_
  rintro e w2 ⟨v, rfl, h1, _, h3⟩
  have hbl2 : Below N w w2 := hbl.trans (h3.mono (by have := hbl.size; omega))
  obtain ⟨g, c, rfl, _, hat⟩ := hrow_form h1 HN.out
  have HAT : Hid _ := hat
  have b3 := b2.below h3 b2.lt
  clear hat hcall h1 h3 hbl c0 c1 c2 c3 b2
  go_wp2_with fail
  go_loopw [5, 7] (fun s i wr => ∃ k : Nat, k ≤ n ∧ i = .int .i64 k ∧ s = .int .i64 ((L.take k).count (hk, hi) : Nat) ∧ Below w2.heap.size w2 wr) (fun _ i _ => n - (intOf i).toNat)
  case atStart => exact ⟨0, Nat.zero_le _, rfl, rfl, Below.refl _ _⟩
  case round =>
    obtain ⟨k, hk9, rfl, rfl, hbr⟩ := hrel
    have hcl : (L.take k).count (hk, hi) ≤ n := Nat.le_trans List.count_le_length (by rw [List.length_take, HN.out]; omega)
    by_cases hlt : k < n
    · obtain ⟨x, hx⟩ : ∃ x, L[k]? = some x := ⟨_, List.getElem?_eq_getElem (by rw [HN.out]; exact hlt)⟩
      obtain ⟨b, rfl, q0, q1⟩ := HAT.out k x hx
      have HS : Hid ((L.take (k + 1)).count (hk, hi) = (L.take k).count (hk, hi) + if x = (hk, hi) then 1 else 0) := by
        show _ = _
        rw [List.take_add_one, hx, List.count_append]
        simp [List.count_cons]
      obtain ⟨s, hs⟩ : ∃ s, (L.take k).count (hk, hi) = s := ⟨_, rfl⟩
      rw [hs] at HS hcl
      rw [hs]
      have b4 := b3.below hbr b3.lt
      have q2 := (cat hbr (lt_of_cell q0)).trans q0
      have q3 := (cat hbr (lt_of_cell q1)).trans q1
      have q4 := b4.cell 0
      have q5 := b4.cell 1
      have y1 : (0 : Int) ≤ (k : Int) := by omega
      have y2 : (k : Int) < (n : Int) := by omega
      clear hs hx q0 q1 b4
      obtain ⟨xk, xi⟩ := x
      simp only at q2 q3 HS
      by_cases e1 : xk = hk
      · subst e1
        by_cases e2 : xi = hi
        · subst e2
          have HS2 : Hid ((L.take (k + 1)).count (xk, xi) = s + 1) := by show _ = _; rw [HS.out, if_pos rfl]
          clear HS
          go_upto_region 6 with fail
          go_quiet (fail)
          go_wp2
          go_roundw
          case rel => exact ⟨k + 1, by omega, by go_num, by rw [HS2.out]; go_num, bel_drewN hbr _⟩
          case measure => simp [intOf]; omega
        · have z1 : (xi == hi) = false := by simp [e2]
          have HS2 : Hid ((L.take (k + 1)).count (xk, hi) = s) := by show _ = _; rw [HS.out, if_neg (by simp [e2])]; rfl
          clear HS e2
          go_upto_region 6 with fail
          go_quiet (fail)
          go_wp2
          go_roundw
          case rel => exact ⟨k + 1, by omega, by go_num, by rw [HS2.out], bel_drewN hbr _⟩
          case measure => simp [intOf]; omega
      · have z1 : (xk == hk) = false := by simp [e1]
        have HS2 : Hid ((L.take (k + 1)).count (hk, hi) = s) := by show _ = _; rw [HS.out, if_neg (by simp [e1])]; rfl
        clear HS e1
        go_upto_region 6 with fail
        go_quiet (fail)
        go_wp2
        go_roundw
        case rel => exact ⟨k + 1, by omega, by go_num, by rw [HS2.out], bel_drewN hbr _⟩
        case measure => simp [intOf]; omega
    · obtain rfl : k = n := by omega
      have HT : Hid (L.take k = L) := List.take_of_length_le (by rw [HN.out]; exact Nat.le_refl _)
      rw [HT.out]
      go_wp2
      go_ret
      exact ⟨rfl, hbl2.trans (hbr.mono (by have := hbl2.size; omega))⟩

end Go.Proofs.Ytheokboggjnenaa
