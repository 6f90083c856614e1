/-
  The contract of lex.Split: the tokens of any text, or its first fault.
-/
import Derived.Test.YtainjagbcbjnbaaRow
namespace Go.Proofs.Ytainjagbcbjnbaa
open Go Go.RowKit Go.Shelf Plain Lex

theorem info46 : (Try.prog.info? 46).map (fun i => (i.zero, i.size, i.bytes)) = some (some (.agg #[.int .i64 0, .string ⟨#[]⟩, .int .i64 0]), 3, 32) := by kernel_rfl

/-- The number that a box holds. -/
def boxNat (w : World) (A : Nat) : Nat := match w.cell? ⟨A, 0, none⟩ with
  | some (.int _ z) => z.toNat
  | _ => 0
theorem boxNat_of {w : World} {A k : Nat} {t : TypeId} (h : Blk w A t #[.int .i64 k]) : boxNat w A = k := by
  unfold boxNat
  rw [show w.cell? ⟨A, 0, none⟩ = some (.int .i64 k) from h.cell 0]
  simp

set_option maxRecDepth 100000 in
set_option maxHeartbeats 3200000 in
theorem Split_calls (s : ByteArray) (hs : s.size ≤ 20000) (w : World) :
    Calls Try.prog 8 #[.string s] w fun e w' => ∃ v, e = .returned (.tuple #[v, .agg (outF s (run s false 0).2)]) ∧ TRow w' w.heap.size 46 v (outT (run s false 0)) ∧ Below w.heap.size w w' := by
  obtain ⟨N, hN⟩ : ∃ N, w.heap.size = N := ⟨_, rfl⟩
  have HN : Hid (w.heap.size = N) := hN
  rw [hN]
  obtain ⟨i0, hi, hz0, hz1, hz2⟩ := info_parts info46
  have hsz : decide ((20000 : Int) < (s.size : Int)) = false := by simp; omega
  go_enter Try.func8, Try.ntmps8
  go_wp2_with fail
  generalize hW : w.alloc (.cells #[.int .i64 0, .int .i64 0, .int .i64 0, .string ⟨#[]⟩] 27) = W
  have b0 : Blk W N 27 #[.int .i64 0, .int .i64 0, .int .i64 0, .string ⟨#[]⟩] := by rw [← hW]; exact Blk.new' w N 27 _ hN
  have hb : Below N w W := by rw [← hW]; exact (Below.refl N w).alloc (by simp [hN]) _
  have hWs : W.heap.size = N + 1 := by rw [← hW]; simp [hN]
  clear hW hN
  refine (cutter_calls s _).mono ?_
  rintro e w1 ⟨N1, rfl, hN1, b1, b2, hb1, hw1⟩
  obtain rfl : N1 = N + 1 := by omega
  have c0 := b0.below hb1 b0.lt
  have hbb : Below N w w1 := hb.trans (hb1.mono (Nat.le_of_lt b0.lt))
  clear hb1 hb b0 hWs hN1
  go_wp2_with fail
  go_loopw [4] (fun i wr => ∃ (k : Nat) (ts : List Tok), k ≤ s.size ∧ Blk wr (N + 1) 9 #[.string s] ∧ Blk wr (N + 1 + 1) 3 #[.int .i64 k] ∧ Blk wr N 27 #[.int .i64 0, .int .i64 0, .int .i64 0, .string ⟨#[]⟩] ∧ TRow wr (N + 3) 46 i ts ∧ ts.length ≤ k ∧ Hid (run s false 0 = (ts ++ (run s false k).1, (run s false k).2)) ∧ Below N w wr ∧ N + 3 ≤ wr.heap.size)
    (fun _ wr => s.size + 1 - boxNat wr (N + 1 + 1))
  case atStart => exact ⟨0, [], Nat.zero_le _, b1, b2, c0, TRow.nil _ _ _, Nat.le_refl _, by show _ = _; simp, hbb, by omega⟩
  case round =>
    obtain ⟨k, ts, hk, d1, d2, d0, hrow, hlen, hrun, hbl, hN3⟩ := hrel
    have hbox := boxNat_of d2
    obtain ⟨ha1, ha2⟩ := aft_le s false k hk
    obtain ⟨hf1, hf2, hf3, hf4⟩ := fr_at s _ ha2
    have hr1 := run_end s false k hk
    have hr2 := run_bad s false k hk
    have hr3 := run_tok s false k hk
    have cN := next_calls s (by omega) (N + 1 + 1) (N + 1) k hk (by omega) wr d2 d1
    have hz := fr_zero s (aft s false k)
    unfold badAt at hr2
    unfold tokAt at hr3
    generalize aft s false k = a at *
    generalize fr s a = f at *
    obtain ⟨kd, n⟩ := f
    simp only at hf1 hf2 hf3 hf4 hr1 hr2 hr3 cN hz
    have HR1 : Hid _ := hr1
    have HR2 : Hid _ := hr2
    have HR3 : Hid _ := hr3
    have HZ : Hid _ := hz
    have HF2 : Hid _ := hf2
    clear hr1 hr2 hr3 hz hf2 hf4
    generalize check kd n = c at *
    go_wp2_with fail
    refine cN.mono ?_
    rintro e w2 ⟨rfl, e2, hO⟩
    have e1 := d1.only hO (by simp)
    have e0 := d0.only hO (by simp; omega)
    have hrow2 := hrow.only hO (by simp)
    have hbl2 : Below N w w2 := hbl.trans (hO.below (by omega) (by simp; omega))
    have hN4 : N + 3 ≤ w2.heap.size := Nat.le_trans hN3 hO.size
    clear hO d0 d1 d2 hrow hbl cN
    obtain ⟨M, hM⟩ : ∃ M, w2.heap.size = M := ⟨_, rfl⟩
    rw [hM] at hN4
    by_cases hc : c = 0
    · subst hc
      have q0 : ∀ o, (w2.alloc o).cell? ⟨N, 0, none⟩ = some (.int .i64 0) := fun o => (e0.alloc o).cell 0
      have q1 : ∀ o, (w2.alloc o).cell? ⟨N, 1, none⟩ = some (.int .i64 0) := fun o => (e0.alloc o).cell 1
      have q2 : ∀ o, (w2.alloc o).cell? ⟨N, 2, none⟩ = some (.int .i64 0) := fun o => (e0.alloc o).cell 2
      have q3 : ∀ o, (w2.alloc o).cell? ⟨N, 3, none⟩ = some (.string ⟨#[]⟩) := fun o => (e0.alloc o).cell 3
      have fz : ∀ o j, (w2.alloc o).frozen? ⟨N, j, none⟩ = false := fun o j => (e0.alloc o).frozen j
      by_cases h4 : kd = 4
      · subst h4
        have HE : Hid (run s false 0 = (ts, none)) := by
          show _ = _
          rw [hrun.out, HR1.out rfl]; simp
        go_wp2
        obtain ⟨o, ho⟩ : ∃ o, o = Obj.cells #[.int .i64 4, .string (s.extract a (a + n)), .int .i64 a] 46 := ⟨_, rfl⟩
        rw [← ho]
        have g := ((((e0.alloc o).set 0 (.int .i64 0)).set 1 (.int .i64 0)).set 2 (.int .i64 0)).set 3 (.string ⟨#[]⟩)
        have hO := (((((Only.refl [N] w2).alloc o).set (B := N) (by simp) 0 (.int .i64 0)).set (B := N) (by simp) 1 (.int .i64 0)).set (B := N) (by simp) 2 (.int .i64 0)).set (B := N) (by simp) 3 (.string ⟨#[]⟩)
        generalize ((((w2.alloc o).setCell ⟨N, 0, none⟩ (.int .i64 0)).setCell ⟨N, 1, none⟩ (.int .i64 0)).setCell ⟨N, 2, none⟩ (.int .i64 0)).setCell ⟨N, 3, none⟩ (.string ⟨#[]⟩) = W4 at *
        have x0 : W4.cell? ⟨N, 0, none⟩ = some (.int .i64 0) := g.cell 0
        have x1 : W4.cell? ⟨N, 1, none⟩ = some (.int .i64 0) := g.cell 1
        have x2 : W4.cell? ⟨N, 2, none⟩ = some (.int .i64 0) := g.cell 2
        have x3 : W4.cell? ⟨N, 3, none⟩ = some (.string ⟨#[]⟩) := g.cell 3
        refine bodyPost_ret (v := .tuple #[u4, .agg #[.int .i64 0, .int .i64 0, .int .i64 0, .string ⟨#[]⟩]]) (by simp [results, Try.results8, go_sem, x0, x1, x2, x3]) rfl ⟨u4, ?_, ?_, ?_⟩
        · rw [HE.out]; rfl
        · rw [HE.out]
          exact (hrow2.only hO (by simp)).mono (by omega)
        · exact hbl2.trans (hO.below (by omega) (by simp))
      · have hkb : ((kd : Int) == 4) = false := by simp; omega
        obtain ⟨hx1, hx2⟩ := HF2.out h4
        have HE : Hid (run s false 0 = (ts ++ [⟨kd, s.extract a (a + n), a⟩] ++ (run s false (a + n)).1, (run s false (a + n)).2)) := by
          show _ = _
          rw [hrun.out, HR3.out rfl h4]; simp
        go_wp2_with fail
        generalize hW : w2.alloc (.cells #[.int .i64 kd, .string (s.extract a (a + n)), .int .i64 a] 46) = W
        have g0 : Blk W N 27 #[.int .i64 0, .int .i64 0, .int .i64 0, .string ⟨#[]⟩] := by rw [← hW]; exact e0.alloc _
        have g1 : Blk W (N + 1) 9 #[.string s] := by rw [← hW]; exact e1.alloc _
        have g2 : Blk W (N + 1 + 1) 3 #[.int .i64 ((a + n : Nat) : Int)] := by rw [← hW]; exact e2.alloc _
        have hb3 : Below N w W := by rw [← hW]; exact hbl2.alloc (by omega) _
        have hrow3 : TRow W (N + 3) 46 u4 ts := by rw [← hW]; exact hrow2.alloc _
        have hN5 : N + 3 ≤ W.heap.size := by rw [← hW]; simp; omega
        clear hW e0 e1 e2 hrow2 hbl2 hM q0 q1 q2 q3 fz
        refine (fresh_calls kd (s.extract a (a + n)) a (by rw [ByteArray.size_extract]; omega) _).mono ?_
        rintro e w3 ⟨rfl, hb4⟩
        have i0' := g0.below hb4 g0.lt
        have i1 := g1.below hb4 g1.lt
        have i2 := g2.below hb4 g2.lt
        have hrow4 := hrow3.below hb4
        have hb5 : Below N w w3 := hb3.trans (hb4.mono (Nat.le_of_lt g0.lt))
        have hN6 : N + 3 ≤ w3.heap.size := Nat.le_trans hN5 hb4.size
        clear hb3 hb4 g0 g1 g2 hrow3 hN5
        go_wp2_with (at_builtin; refine wpList_append_own _ rfl _ _ 22 rfl (N + 3) 46 i0 (.agg #[.int .i64 0, .string ⟨#[]⟩, .int .i64 0]) 3 32 Try.underlying22 hi hz0 hz1 hz2 rfl (by decide) _ _ _ rfl (hrow4.alloc _) ⟨w3.heap.size, 0, none⟩ 1 1 [.int .i64 kd, .string (s.extract a (a + n)), .int .i64 a] rfl rfl (cell_three_new _ _ _ _ _) (by simp [Value.oneCell']) (by unfold maxLen; omega) (by omega) (by simp; omega) ?_; intro v' w4 hown' hgrow _)
        have hne : ∀ B, B < N + 3 → some B ≠ u4.ownBlock := by
          intro B hB e
          have := (World.ownsRow.lt hrow4 B e.symm).1
          omega
        have hb6 : Below N w w4 := (hb5.alloc (by omega) _).grown hgrow (by simp; omega) (fun j hj => by have := (World.ownsRow.lt hrow4 j hj).1; omega)
        have k2 := (i2.alloc _).kept hgrow (hne _ (by omega))
        refine ⟨⟨a + n, ts ++ [⟨kd, s.extract a (a + n), a⟩], by omega, (i1.alloc _).kept hgrow (hne _ (by omega)), k2, (i0'.alloc _).kept hgrow (hne _ (by omega)), ?_, by simp; omega, HE, hb6, by have := hgrow.size; simp at this; omega⟩, ?_⟩
        · show w4.ownsRow _ _ _ _ _ _
          rw [tcells_append]
          simpa [tcells, tcell] using hown'
        · rw [boxNat_of k2, hbox]; omega
    · have hcb : ((c : Int) == 0) = false := by simp; omega
      have HE : Hid (run s false 0 = (ts, some ⟨c, a, badWord kd (s.extract a (a + n))⟩)) := by
        show _ = _
        rw [hrun.out, HR2.out hc]; simp
      have hx0 : kd = 0 → (s.extract a (a + n)).size = 1 := by
        intro h
        have := HZ.out h
        rw [ByteArray.size_extract]; omega
      go_wp2_with fail
      generalize hW : w2.alloc (.cells #[.int .i64 kd, .string (s.extract a (a + n)), .int .i64 a] 46) = W
      have g0 : Blk W N 27 #[.int .i64 0, .int .i64 0, .int .i64 0, .string ⟨#[]⟩] := by rw [← hW]; exact e0.alloc _
      have hb3 : Below N w W := by rw [← hW]; exact hbl2.alloc (by omega) _
      clear hW
      refine (blame_calls s (s.extract a (a + n)) (by omega) (by rw [ByteArray.size_extract]; omega) kd a c ha2 hx0 _).mono ?_
      rintro e w3 ⟨rfl, hb4⟩
      have i1 := g0.below hb4 g0.lt
      have hb5 : Below N w w3 := hb3.trans (hb4.mono (Nat.le_of_lt g0.lt))
      clear hb3 hb4 g0 e0 e1 e2 hrow2 hbl2
      have q0 : w3.cell? ⟨N, 0, none⟩ = some (.int .i64 0) := i1.cell 0
      have q1 : w3.cell? ⟨N, 1, none⟩ = some (.int .i64 0) := i1.cell 1
      have q2 : w3.cell? ⟨N, 2, none⟩ = some (.int .i64 0) := i1.cell 2
      have q3 : w3.cell? ⟨N, 3, none⟩ = some (.string ⟨#[]⟩) := i1.cell 3
      have fz : ∀ j, w3.frozen? ⟨N, j, none⟩ = false := fun j => i1.frozen j
      generalize hm : markAt s a = m at *
      have HM : Hid (markAt s a = m) := hm
      clear hm
      obtain ⟨L, C⟩ := m
      simp only
      generalize badWord kd (s.extract a (a + n)) = wd at *
      go_wp2
      have g := (((i1.set 0 (.int .i64 c)).set 1 (.int .i64 L)).set 2 (.int .i64 C)).set 3 (.string wd)
      have hbl := bset (i := 3) (bset (i := 2) (bset (i := 1) (bset (i := 0) hb5 (Nat.le_refl N) (.int .i64 c)) (Nat.le_refl N) (.int .i64 L)) (Nat.le_refl N) (.int .i64 C)) (Nat.le_refl N) (.string wd)
      generalize (((w3.setCell ⟨N, 0, none⟩ (.int .i64 c)).setCell ⟨N, 1, none⟩ (.int .i64 L)).setCell ⟨N, 2, none⟩ (.int .i64 C)).setCell ⟨N, 3, none⟩ (.string wd) = W4 at *
      have x0 : W4.cell? ⟨N, 0, none⟩ = some (.int .i64 c) := g.cell 0
      have x1 : W4.cell? ⟨N, 1, none⟩ = some (.int .i64 L) := g.cell 1
      have x2 : W4.cell? ⟨N, 2, none⟩ = some (.int .i64 C) := g.cell 2
      have x3 : W4.cell? ⟨N, 3, none⟩ = some (.string wd) := g.cell 3
      refine bodyPost_ret (v := .tuple #[.slice none 0 0, .agg #[.int .i64 c, .int .i64 L, .int .i64 C, .string wd]]) (by simp [results, Try.results8, go_sem, x0, x1, x2, x3]) rfl ⟨.slice none 0 0, ?_, ?_, hbl⟩
      · rw [HE.out]
        simp only [outF, HM.out]
      · rw [HE.out]
        exact TRow.nil _ _ _

end Go.Proofs.Ytainjagbcbjnbaa
