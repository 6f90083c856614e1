/-
  The contract of the document's infer, at a head.
-/
import Derived.Test.YtckagmagjogmnaaRefA
import Derived.Test.YtckagmagjogmnaaInfE
import Derived.Test.YtckagmagjogmnaaFewR
import Derived.Test.YtckagmagjogmnaaRefR
namespace Go.Proofs.Ytckagmagjogmnaa
open Go Go.RowKit

/-- What the document's infer tells: a type in memory that was there or is new, and the error's number. -/
def RefTold (ok : Nat → Prop) (p : Int × Ty) (w : World) (e : Ending) (w' : World) : Prop :=
  ∃ a n c, e = .returned (.tuple #[tv (.slice a n c) p.2.base, .int .i64 p.1]) ∧ Holds w' (fun b => ok b ∨ w.heap.size ≤ b) p.2.args (.slice a n c) ∧ Below w.heap.size w w'
def RefInfAt (r : Rw) : Prop := ∀ (cs ms ctx : List Ty) (bs : Int) (cv mv xv sb sr : Value) (ok : Nat → Prop) (w : World), Holds w ok cs cv → Holds w ok ms mv → Holds w ok ctx xv → Holds w ok r.ty.args sb → HoldsR w ok r.kids sr →
    sizeL cs ≤ 900000 → sizeL ms ≤ 900000 → (∀ u ∈ ctx, u.size ≤ 1000) → ctx.length + r.size ≤ 900 →
    Calls Try.prog 55 #[wov bs cv mv, xv, rwv r.kind sb r.ty.base r.idx sr] w (RefTold ok (r.inf bs cs ms ctx) w)

set_option maxRecDepth 100000 in
set_option maxHeartbeats 3200000 in
theorem refInf_head (r : Rw) (hkd : r.kind < 3) (hix : r.idx ≤ 9223372036854775807) : RefInfAt r := by
  intro cs ms ctx bs cv mv xv sb sr ok w hc hm hx hb hr hcs hms hxs hlen
  have hrs := r.size_eq
  obtain ⟨c1, c2, rfl, _⟩ := hc.shape
  obtain ⟨m1, m2, rfl, _⟩ := hm.shape
  obtain ⟨a1, a2, rfl, _⟩ := hx.shape
  obtain ⟨x1, x2, rfl, _⟩ := hb.shape
  obtain ⟨x3, x4, rfl, _⟩ := hr.shape
  obtain ⟨N, hN⟩ : ∃ N, w.heap.size = N := ⟨_, rfl⟩
  have HN : Hid (w.heap.size = N) := hN
  obtain ⟨K, hK⟩ : ∃ K, r.kind = K := ⟨_, rfl⟩
  have hinf : r.inf bs cs ms ctx = finI (headI (pickA cs ms ctx K r.idx)) := by rw [r.inf_eq]; unfold Rw.ofI; rw [hK] at hkd ⊢; rw [if_neg (by omega), if_neg (by omega)]
  obtain ⟨P, hP⟩ : ∃ P, r.inf bs cs ms ctx = P := ⟨_, rfl⟩
  have HP : Hid (finI (headI (pickA cs ms ctx K r.idx)) = P) := by show _ = _; rw [← hinf, hP]
  rw [hP, hK]
  rw [hK] at hkd
  have z3 : decide (K < 3) = true := by simp; omega
  have hok : ∀ b, b < w.heap.size → ok b → ok b ∧ b < N := fun b hb ho => ⟨ho, hN ▸ hb⟩
  obtain ⟨W0, hW0⟩ : ∃ W0, (((w.alloc (.cells #[.int .i64 bs, .slice c1 cs.length c2, .slice m1 ms.length m2] 47)).alloc (.cells #[.int .i64 K, .slice x1 r.ty.args.length x2, .int .i64 r.ty.base, .int .i64 r.idx, .slice x3 r.kids.length x4] 27)).alloc (.cells #[.slice none 0 0, .int .i64 0] 24)).alloc (.cells #[.slice none 0 0, .int .i64 0] 24) = W0 := ⟨_, rfl⟩
  have b0 : Blk W0 N 47 #[.int .i64 bs, .slice c1 cs.length c2, .slice m1 ms.length m2] := by rw [← hW0]; exact (((Blk.new' w N 47 _ hN).alloc _).alloc _).alloc _
  have b1 : Blk W0 (N + 1) 27 #[.int .i64 K, .slice x1 r.ty.args.length x2, .int .i64 r.ty.base, .int .i64 r.idx, .slice x3 r.kids.length x4] := by rw [← hW0]; exact ((Blk.new' _ (N + 1) 27 _ (by simp [hN])).alloc _).alloc _
  have b2 : Blk W0 (N + 1 + 1) 24 #[.slice none 0 0, .int .i64 0] := by rw [← hW0]; exact (Blk.new' _ (N + 1 + 1) 24 _ (by simp [hN])).alloc _
  have b3 : Blk W0 (N + 1 + 1 + 1) 24 #[.slice none 0 0, .int .i64 0] := by rw [← hW0]; exact Blk.new' _ (N + 1 + 1 + 1) 24 _ (by simp [hN])
  have bl0 : Below N w W0 := by rw [← hW0]; exact ((((Below.refl N w).alloc (by omega) _).alloc (by simp; omega) _).alloc (by simp; omega) _).alloc (by simp; omega) _
  have hz0 : W0.heap.size = N + 1 + 1 + 1 + 1 := by rw [← hW0]; simp [hN]
  have hcall := rht_head bs K r.idx (fun b => ok b ∧ b < N) cs ms ctx _ _ _ W0 ((hc.mono hok).bel (hN ▸ bl0)) ((hm.mono hok).bel (hN ▸ bl0)) ((hx.mono hok).bel (hN ▸ bl0)) (by omega) hix
  have HPS : Hid _ := hxs
  have HW : Hid _ := hW0
  have c0 := b0.cell 0
  have c1' := b0.cell 1
  have c2' := b0.cell 2
  have d0 := b1.cell 0
  have d3 := b1.cell 3
  generalize cs.length = cn at *
  generalize ms.length = mn at *
  generalize ctx.length = xn at *
  generalize r.ty.args.length = bn at *
  generalize r.kids.length = an at *
  clear hW0 hc hm hx hb hr hinf hP hxs
  go_enter Try.func55, Try.ntmps55
  go_upto_region 2 with fail
  rw [HW.out]
  clear HW
  go_wp2_with fail
  refine hcall.mono ?_
  clear hcall
  rintro e w1 ⟨hf, hb1⟩
  have hB1 : Below N w w1 := bl0.trans (hb1.mono (by omega))
  have e2 := b2.below hb1 b2.lt
  have e3 := b3.below hb1 b3.lt
  have hl1 : N + 1 + 1 + 1 < w1.heap.size := e3.lt
  have HCS : Hid (sizeL cs ≤ 900000 ∧ sizeL ms ≤ 900000) := ⟨hcs, hms⟩
  clear b0 b1 b2 b3 bl0 c0 c1' c2' d0 d3 hcs hms
  obtain ⟨X, hX⟩ : ∃ X, w1.heap.size = X := ⟨_, rfl⟩
  have hXN : N + 1 + 1 + 1 < X := by omega
  rcases hf with ⟨hpk, rfl⟩ | ⟨h, ha, hn, hcp, hpk, hh, rfl⟩
  · have HPF : Hid (P = (10, zT)) := by show _ = _; rw [← HP.out, hpk]; rfl
    have q0 := (e3.alloc (.cells #[.slice none 0 0, .int .i64 0] 24)).cell 0
    have q1 := (e3.alloc (.cells #[.slice none 0 0, .int .i64 0] 24)).cell 1
    obtain ⟨W2, hW2⟩ : ∃ W2, w1.alloc (.cells #[.slice none 0 0, .int .i64 0] 24) = W2 := ⟨_, rfl⟩
    have m2 : Blk W2 (N + 1 + 1) 24 #[.slice none 0 0, .int .i64 0] := by rw [← hW2]; exact e2.alloc _
    have hB2 : Below N w W2 := by rw [← hW2]; exact hB1.alloc (by omega) _
    have HW2 : Hid _ := hW2
    rw [hW2] at q0 q1
    clear hW2 e2 e3
    go_upto_region 4 with fail
    rw [HW2.out]
    clear HW2
    have z00 := m2.cell 0
    have z11 := m2.cell 1
    have f0 := m2.frozen 0
    have f1 := m2.frozen 1
    have b5 := (m2.set 0 (.slice none 0 0)).set 1 (.int .i64 0)
    have o5 : Only [N + 1 + 1] W2 ((W2.setCell ⟨N + 1 + 1, 0, none⟩ (.slice none 0 0)).setCell ⟨N + 1 + 1, 1, none⟩ (.int .i64 0)) := ((Only.refl _ _).set (by simp) 0 _).set (by simp) 1 _
    go_wp2
    generalize (W2.setCell ⟨N + 1 + 1, 0, none⟩ (.slice none 0 0)).setCell ⟨N + 1 + 1, 1, none⟩ (.int .i64 0) = W5 at *
    have g0 : W5.cell? ⟨N + 1 + 1, 0, none⟩ = some (.slice none 0 0) := b5.cell 0
    have g1 : W5.cell? ⟨N + 1 + 1, 1, none⟩ = some (.int .i64 0) := b5.cell 1
    exact bodyPost_ret (v := .tuple #[tv (.slice none 0 0) 0, .int .i64 10]) (by simp [results, Try.results55, go_sem, g0, g1]) rfl (by unfold RefTold; rw [HPF.out]; exact ⟨none, 0, 0, rfl, Holds.nil _ _ _ _ (fun _ => rfl), HN.out ▸ (hB2.trans (o5.below (n := N) (by have := hB2.size; omega) (by simp; omega)))⟩)
  · have hsz : h.size ≤ 900000 := by
      rcases pickA_mem hpk with h1 | h1 | h1
      · have := size_mem h1; have := HCS.out.1; omega
      · have := size_mem h1; have := HCS.out.2; omega
      · have := HPS.out h h1; omega
    obtain ⟨W2, hW2⟩ : ∃ W2, w1.alloc (.cells #[.slice ha hn hcp, .int .i64 h.base] 24) = W2 := ⟨_, rfl⟩
    have m2 : Blk W2 (N + 1 + 1) 24 #[.slice none 0 0, .int .i64 0] := by rw [← hW2]; exact e2.alloc _
    have m3 : Blk W2 (N + 1 + 1 + 1) 24 #[.slice none 0 0, .int .i64 0] := by rw [← hW2]; exact e3.alloc _
    have m4 : Blk W2 X 24 #[.slice ha hn hcp, .int .i64 h.base] := by rw [← hW2]; exact Blk.new' w1 X 24 _ hX
    have hB2 : Below N w W2 := by rw [← hW2]; exact hB1.alloc (by omega) _
    have hh1 : Holds w1 (fun b => ok b ∧ b < N) h.args (.slice ha hn hcp) := hh.bel hb1
    have hh2 : Holds W2 (fun b => ok b ∧ b < N) h.args (.slice ha hn hcp) := by rw [← hW2]; exact hh1.alloc _
    have ksz := Size_calls h _ _ W2 hh2 (by omega)
    have q0 := m4.cell 0
    have q1 := m4.cell 1
    have HW2 : Hid _ := hW2
    clear hW2 e2 e3 hh hh1
    go_upto_region 4 with fail
    rw [HW2.out]
    clear HW2
    go_wp2_with fail
    refine ksz.mono ?_
    rintro e w3 ⟨rfl, hb3⟩
    have hB3 : Below N w w3 := hB2.trans (hb3.mono (by have := m4.lt; omega))
    have n2 := m2.below hb3 m2.lt
    have n3 := m3.below hb3 m3.lt
    have n4 := m4.below hb3 m4.lt
    have hh3 := hh2.bel hb3
    obtain ⟨sz, hsz'⟩ : ∃ s, h.size = s := ⟨_, rfl⟩
    rw [hsz']
    clear ksz q0 q1 m2 m3 m4 hh2
    by_cases hle : sz ≤ 1000
    · have z1 : decide ((sz : Int) > 1000) = false := by simp; omega
      have z2 : decide (1000 < (sz : Int)) = false := by simp; omega
      have HPF : Hid (P = (0, h)) := by show _ = _; rw [← HP.out, hpk]; show finI (0, h) = (0, h); unfold finI; rw [if_pos rfl, if_pos (by show h.size ≤ 1000; omega)]
      have q0 := n4.cell 0
      have q1 := n4.cell 1
      have z00 := n2.cell 0
      have z11 := n2.cell 1
      have f0 := n2.frozen 0
      have f1 := n2.frozen 1
      have b5 := (n2.set 0 (.slice ha hn hcp)).set 1 (.int .i64 h.base)
      have o5 : Only [N + 1 + 1] w3 ((w3.setCell ⟨N + 1 + 1, 0, none⟩ (.slice ha hn hcp)).setCell ⟨N + 1 + 1, 1, none⟩ (.int .i64 h.base)) := ((Only.refl _ _).set (by simp) 0 _).set (by simp) 1 _
      go_wp2
      generalize (w3.setCell ⟨N + 1 + 1, 0, none⟩ (.slice ha hn hcp)).setCell ⟨N + 1 + 1, 1, none⟩ (.int .i64 h.base) = W5 at *
      have g0 : W5.cell? ⟨N + 1 + 1, 0, none⟩ = some (.slice ha hn hcp) := b5.cell 0
      have g1 : W5.cell? ⟨N + 1 + 1, 1, none⟩ = some (.int .i64 h.base) := b5.cell 1
      exact bodyPost_ret (v := .tuple #[tv (.slice ha hn hcp) h.base, .int .i64 0]) (by simp [results, Try.results55, go_sem, g0, g1]) rfl (by unfold RefTold; rw [HPF.out]; exact ⟨ha, hn, hcp, rfl, hh3.keep fun b hb ho => ⟨o5.block b hb (by simp; omega), .inl ho.1⟩, HN.out ▸ (hB3.trans (o5.below (n := N) (by have := hB3.size; omega) (by simp; omega)))⟩)
    · have z1 : decide ((sz : Int) > 1000) = true := by simp; omega
      have z2 : decide (1000 < (sz : Int)) = true := by simp; omega
      have HPF : Hid (P = (2, zT)) := by show _ = _; rw [← HP.out, hpk]; show finI (0, h) = (2, zT); unfold finI; rw [if_pos rfl, if_neg (by show ¬ h.size ≤ 1000; omega)]
      have q0 := n3.cell 0
      have q1 := n3.cell 1
      have z00 := n2.cell 0
      have z11 := n2.cell 1
      have f0 := n2.frozen 0
      have f1 := n2.frozen 1
      have b5 := (n2.set 0 (.slice none 0 0)).set 1 (.int .i64 0)
      have o5 : Only [N + 1 + 1] w3 ((w3.setCell ⟨N + 1 + 1, 0, none⟩ (.slice none 0 0)).setCell ⟨N + 1 + 1, 1, none⟩ (.int .i64 0)) := ((Only.refl _ _).set (by simp) 0 _).set (by simp) 1 _
      go_wp2
      generalize (w3.setCell ⟨N + 1 + 1, 0, none⟩ (.slice none 0 0)).setCell ⟨N + 1 + 1, 1, none⟩ (.int .i64 0) = W5 at *
      have g0 : W5.cell? ⟨N + 1 + 1, 0, none⟩ = some (.slice none 0 0) := b5.cell 0
      have g1 : W5.cell? ⟨N + 1 + 1, 1, none⟩ = some (.int .i64 0) := b5.cell 1
      exact bodyPost_ret (v := .tuple #[tv (.slice none 0 0) 0, .int .i64 2]) (by simp [results, Try.results55, go_sem, g0, g1]) rfl (by unfold RefTold; rw [HPF.out]; exact ⟨none, 0, 0, rfl, Holds.nil _ _ _ _ (fun _ => rfl), HN.out ▸ (hB3.trans (o5.below (n := N) (by have := hB3.size; omega) (by simp; omega)))⟩)

end Go.Proofs.Ytckagmagjogmnaa
