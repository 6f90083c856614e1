/-
  The contract of lex.blame: the fault of a token, at its place.
-/
import Derived.Test.YtainjagbcbjnbaaNext
namespace Go.Proofs.Ytainjagbcbjnbaa
open Go Go.RowKit Go.Shelf Plain Lex

theorem badWord_some (kd : Nat) (t : ByteArray) (h : ¬ kd = 0) : badWord kd t = headB t := by
  unfold badWord; rw [if_neg]; exact fun x => h x.1
theorem one_byte (t : ByteArray) (h : t.size = 1) : t.data.toList = [t[0]] := by
  have := drop_cons t 0 (by omega)
  rw [List.drop_zero, List.drop_eq_nil_of_le (by simp [h])] at this
  exact this
theorem badWord_out (t : ByteArray) (h : t.size = 1) (hb : t[0].toNat < 33 ∨ 126 < t[0].toNat) : badWord 0 t = ⟨#[]⟩ := by
  unfold badWord; rw [if_pos]; refine ⟨rfl, ?_⟩
  rw [one_byte t h]; simpa using hb
theorem badWord_in (t : ByteArray) (h : t.size = 1) (hb : ¬ (t[0].toNat < 33 ∨ 126 < t[0].toNat)) : badWord 0 t = headB t := by
  unfold badWord; rw [if_neg]; intro hx
  have := hx.2
  rw [one_byte t h] at this
  exact hb (this _ (by simp))

set_option maxRecDepth 100000 in
set_option maxHeartbeats 1600000 in
theorem blame_calls (s t : ByteArray) (hs : s.size ≤ 281474976710656) (ht : t.size ≤ 281474976710656) (kd p c : Nat) (hp : p ≤ s.size) (h0 : kd = 0 → t.size = 1) (w : World) :
    Calls Try.prog 32 #[.string s, .agg #[.int .i64 kd, .string t, .int .i64 p], .int .i64 c] w fun e w' =>
      e = .returned (.agg #[.int .i64 c, .int .i64 ((markAt s p).1 : Int), .int .i64 ((markAt s p).2 : Int), .string (badWord kd t)]) ∧ Below w.heap.size w w' := by
  obtain ⟨N, hN⟩ : ∃ N, w.heap.size = N := ⟨_, rfl⟩
  have HN : Hid (w.heap.size = N) := hN
  have cO : ∀ w, Calls Try.prog 46 #[.string s, .int .i64 p] w fun e w' => e = .returned (.tuple #[.agg #[.int .i64 ((markAt s p).1 : Int), .int .i64 ((markAt s p).2 : Int)], .int .i64 0]) ∧ Below w.heap.size w w' := Of_calls s (by omega) p hp
  generalize markAt s p = m at *
  obtain ⟨L, C⟩ := m
  simp only at cO ⊢
  have CO : Hid _ := cO
  clear cO
  go_enter Try.func32, Try.ntmps32
  go_wp2_with fail
  generalize hW : (w.alloc (.cells #[.int .i64 kd, .string t, .int .i64 p] 46)).alloc (.cells #[.int .i64 0, .int .i64 0, .int .i64 0, .string ⟨#[]⟩] 27) = W
  have b0 : Blk W N 46 #[.int .i64 kd, .string t, .int .i64 p] := by rw [← hW]; exact (Blk.new' w N 46 _ hN).alloc _
  have b1 : Blk W (N + 1) 27 #[.int .i64 0, .int .i64 0, .int .i64 0, .string ⟨#[]⟩] := by rw [← hW]; exact Blk.new' _ _ 27 _ (by simp [hN])
  have hb : Below N w W := by rw [← hW]; exact ((Below.refl N w).alloc (by simp [hN]) _).alloc (by simp [hN]) _
  clear hW hN
  refine (CO.out _).mono ?_
  rintro e w1 ⟨rfl, hb1⟩
  have c0 := b0.below hb1 b0.lt
  have c1 := b1.below hb1 b1.lt
  have hbb : Below N w w1 := hb.trans (hb1.mono (Nat.le_of_lt b0.lt))
  clear hb1 b0 b1 hb CO
  obtain ⟨M, hM⟩ : ∃ M, w1.heap.size = M := ⟨_, rfl⟩
  have q1 : ∀ o, (w1.alloc o).cell? ⟨N, 1, none⟩ = some (.string t) := fun o => (c0.alloc o).cell 1
  have hNM : N + 1 < M := by rw [← hM]; exact c1.lt
  go_wp2_with fail
  generalize hW : w1.alloc (.cells #[.int .i64 L, .int .i64 C] 25) = W
  have d0 : Blk W N 46 #[.int .i64 kd, .string t, .int .i64 p] := by rw [← hW]; exact c0.alloc _
  have d1 : Blk W (N + 1) 27 #[.int .i64 0, .int .i64 0, .int .i64 0, .string ⟨#[]⟩] := by rw [← hW]; exact c1.alloc _
  have d2 : Blk W M 25 #[.int .i64 L, .int .i64 C] := by rw [← hW]; exact Blk.new' _ _ 25 _ hM
  have hb : Below N w W := by rw [← hW]; exact hbb.alloc (by omega) _
  clear hW hM q1 c0 c1 hbb
  refine (head_calls t ht _).mono ?_
  rintro e w2 ⟨rfl, hb2⟩
  have e0 := d0.below hb2 d0.lt
  have e1 := d1.below hb2 d1.lt
  have e2 := d2.below hb2 d2.lt
  have hbb : Below N w w2 := hb.trans (hb2.mono (Nat.le_of_lt d0.lt))
  clear hb2 d0 d1 d2 hb
  have q0 : w2.cell? ⟨N, 0, none⟩ = some (.int .i64 kd) := e0.cell 0
  have q1 : w2.cell? ⟨N, 1, none⟩ = some (.string t) := e0.cell 1
  have m0 : w2.cell? ⟨M, 0, none⟩ = some (.int .i64 L) := e2.cell 0
  have m1 : w2.cell? ⟨M, 1, none⟩ = some (.int .i64 C) := e2.cell 1
  have r0 : w2.cell? ⟨N + 1, 0, none⟩ = some (.int .i64 0) := e1.cell 0
  have r1 : w2.cell? ⟨N + 1, 1, none⟩ = some (.int .i64 0) := e1.cell 1
  have r2 : w2.cell? ⟨N + 1, 2, none⟩ = some (.int .i64 0) := e1.cell 2
  have r3 : w2.cell? ⟨N + 1, 3, none⟩ = some (.string ⟨#[]⟩) := e1.cell 3
  have f1 : ∀ j, w2.frozen? ⟨N + 1, j, none⟩ = false := fun j => e1.frozen j
  have HBad : Hid (∀ wd : ByteArray, badWord kd t = wd → ∀ tm : Array Value, tm[6]? = some (.pointer (some ⟨N + 1, 0, none⟩)) → bodyPost Try.prog Try.f32 (fun e w' => e = Ending.returned (.agg #[.int .i64 c, .int .i64 L, .int .i64 C, .string (badWord kd t)]) ∧ Below w.heap.size w w') .ret
      { tmps := tm, defers := [] } ((((w2.setCell ⟨N + 1, 0, none⟩ (.int .i64 c)).setCell ⟨N + 1, 1, none⟩ (.int .i64 L)).setCell ⟨N + 1, 2, none⟩ (.int .i64 C)).setCell ⟨N + 1, 3, none⟩ (.string wd))) := by
    intro wd hwd tm htm
    have g := (((e1.set 0 (.int .i64 c)).set 1 (.int .i64 L)).set 2 (.int .i64 C)).set 3 (.string wd)
    have hbl := bset (i := 3) (bset (i := 2) (bset (i := 1) (bset (i := 0) hbb (Nat.le_succ N) (.int .i64 c)) (Nat.le_succ N) (.int .i64 L)) (Nat.le_succ N) (.int .i64 C)) (Nat.le_succ N) (.string wd)
    generalize (((w2.setCell ⟨N + 1, 0, none⟩ (.int .i64 c)).setCell ⟨N + 1, 1, none⟩ (.int .i64 L)).setCell ⟨N + 1, 2, none⟩ (.int .i64 C)).setCell ⟨N + 1, 3, none⟩ (.string wd) = W4 at *
    have x0 : W4.cell? ⟨N + 1, 0, none⟩ = some (.int .i64 c) := g.cell 0
    have x1 : W4.cell? ⟨N + 1, 1, none⟩ = some (.int .i64 L) := g.cell 1
    have x2 : W4.cell? ⟨N + 1, 2, none⟩ = some (.int .i64 C) := g.cell 2
    have x3 : W4.cell? ⟨N + 1, 3, none⟩ = some (.string wd) := g.cell 3
    exact bodyPost_ret (v := .agg #[.int .i64 c, .int .i64 L, .int .i64 C, .string wd]) (by simp [results, Try.results32, go_sem, htm, x0, x1, x2, x3]) rfl ⟨by rw [hwd], by rw [HN.out]; exact hbl⟩
  by_cases hk0 : kd = 0
  · subst hk0
    have h1 := h0 rfl
    clear h0
    by_cases hb : t[0].toNat < 33
    · have HB : Hid (badWord 0 t = ⟨#[]⟩) := badWord_out t h1 (.inl hb)
      go_wp2
      exact HBad.out _ HB.out _ rfl
    · by_cases hb2 : 126 < t[0].toNat
      · have HB : Hid (badWord 0 t = ⟨#[]⟩) := badWord_out t h1 (.inr hb2)
        go_wp2
        exact HBad.out _ HB.out _ rfl
      · have HB : Hid (badWord 0 t = headB t) := badWord_in t h1 (by omega)
        go_wp2
        exact HBad.out _ HB.out _ rfl
  · have HB : Hid (badWord kd t = headB t) := badWord_some kd t hk0
    have hkb : ((kd : Int) == 0) = false := by simp; omega
    clear h0
    go_wp2
    exact HBad.out _ HB.out _ rfl

end Go.Proofs.Ytainjagbcbjnbaa
