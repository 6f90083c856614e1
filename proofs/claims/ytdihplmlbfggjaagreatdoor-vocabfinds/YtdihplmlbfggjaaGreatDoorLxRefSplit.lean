/-
  The contract of the document's own Split, byte by byte.
-/
import Derived.Test.YtdihplmlbfggjaaGreatDoorLxSplitA
import Derived.Deep.RegionHeld3
namespace Go.Proofs.YtdihplmlbfggjaaGreatDoor.Lx
open Go Go.RowKit Go.Shelf Plain Lex

theorem info59 : (Tryz.prog.info? 103).map (fun i => (i.zero, i.size, i.bytes)) = some (some (.agg #[.int .i64 0, .string ⟨#[]⟩, .int .i64 0]), 3, 32) := by kernel_rfl

theorem take2 (s : ByteArray) (k : Nat) (h : k < s.size) : (s.data.toList.drop k).take 2 = [45, 62] ↔ s[k].toNat = 45 ∧ ∃ h2 : k + 1 < s.size, s[k + 1].toNat = 62 := by
  rw [drop_cons s k h]
  by_cases h2 : k + 1 < s.size
  · rw [drop_cons s (k + 1) h2]
    simp only [List.take_succ_cons, List.take_zero, List.cons.injEq, and_true]
    constructor
    · rintro ⟨e1, e2⟩; exact ⟨by rw [e1]; rfl, h2, by rw [e2]; rfl⟩
    · rintro ⟨e1, _, e2⟩; exact ⟨UInt8.toNat_inj.1 (by rw [e1]; rfl), UInt8.toNat_inj.1 (by rw [e2]; rfl)⟩
  · rw [List.drop_eq_nil_of_le (by simp; omega)]
    constructor
    · intro e; simp at e
    · rintro ⟨_, h3, _⟩; exact absurd h3 h2
theorem one_list (s : ByteArray) (k : Nat) (h : k < s.size) : (s.extract k (k + 1)).data.toList = [s[k]] := by
  rw [Lib.extract_data, drop_cons s k h]; simp
theorem bad_in (s : ByteArray) (k : Nat) (h : k < s.size) (hb : ¬ (s[k].toNat < 33 ∨ 126 < s[k].toNat)) : badWord 0 (s.extract k (k + 1)) = s.extract k (k + 1) := by
  unfold badWord
  rw [if_neg, headB_all]
  · rw [ByteArray.size_extract]; omega
  · intro hx
    have := hx.2
    rw [one_list s k h] at this
    exact hb (this _ (by simp))
theorem bad_out (s : ByteArray) (k : Nat) (h : k < s.size) (hb : s[k].toNat < 33 ∨ 126 < s[k].toNat) : badWord 0 (s.extract k (k + 1)) = ⟨#[]⟩ := by
  unfold badWord
  rw [if_pos]
  refine ⟨rfl, ?_⟩
  rw [one_list s k h]
  simpa using hb

theorem wrap_small {x : Int} (h0 : 0 ≤ x) (h1 : x ≤ 4611686018427387904) : IntKind.i64.wrap x = x := by
  rw [IntKind.wrap_i64]; omega

set_option maxRecDepth 100000 in
set_option maxHeartbeats 6400000 in
theorem refSplit_calls (s : ByteArray) (hs : s.size ≤ 20000) (w : World) :
    Calls Tryz.prog 38 #[.string s] w fun e w' => ∃ v, e = .returned (.tuple #[v, .agg (outF s (run s false 0).2)]) ∧ TRow w' w.heap.size 103 v (outT (run s false 0)) ∧ Below w.heap.size w w' := by
  obtain ⟨N, hN⟩ : ∃ N, w.heap.size = N := ⟨_, rfl⟩
  have HN : Hid (w.heap.size = N) := hN
  rw [hN]
  obtain ⟨i0, hi, hz0, hz1, hz2⟩ := info_parts info59
  have hsz : decide ((20000 : Int) < (s.size : Int)) = false := by simp; omega
  go_enter Tryz.func38, Tryz.ntmps38
  go_wp2_with fail
  go_loopw [4, 5, 6] (fun v r i wr => ∃ (k : Nat) (rem : Bool) (ts : List Tok), k ≤ s.size ∧ i = .int .i64 k ∧ r = .bool rem ∧ Blk wr N 99 #[.int .i64 0, .int .i64 0, .int .i64 0, .string ⟨#[]⟩] ∧ TRow wr (N + 1) 103 v ts ∧ ts.length ≤ k ∧ Hid (run s false 0 = (ts ++ (run s rem k).1, (run s rem k).2)) ∧ Below N w wr ∧ N + 1 ≤ wr.heap.size)
    (fun _ _ i _ => s.size - (intOf i).toNat)
  case atStart =>
    refine ⟨0, false, [], Nat.zero_le _, rfl, rfl, Blk.new' w N 99 _ hN, TRow.nil _ _ _, Nat.le_refl _, by show _ = _; simp, (Below.refl N w).alloc (by simp [hN]) _, by simp [hN]⟩
  case round =>
    obtain ⟨k, rem, ts, hk, rfl, rfl, d0, hrow, hlen, hrun, hbl, hN3⟩ := hrel
    clear hN
    by_cases hlt : k < s.size
    · have HC1 : Hid (∀ w, Calls Tryz.prog 48 #[.int .u8 (s[k].toNat : Int), .string ⟨#[32, 9, 10, 13, 35]⟩] w fun e w' => e = .returned (.bool (gapL.contains s[k])) ∧ w = w') := fun w => among_const s[k] gapL _ rfl (by decide) w
      by_cases hgap : (rem || gapL.contains s[k]) = true
      · have HE : Hid (run s false 0 = (ts ++ (run s (decide (¬ s[k].toNat = 10) && (rem || decide (s[k].toNat = 35))) (k + 1)).1, (run s (decide (¬ s[k].toNat = 10) && (rem || decide (s[k].toNat = 35))) (k + 1)).2)) := by
          show _ = _
          rw [hrun.out, run_skip s rem k hlt hgap]
        obtain ⟨g, hg⟩ : ∃ g, gapL.contains s[k] = g := ⟨_, rfl⟩
        rw [hg] at HC1 hgap
        obtain ⟨d10, hd10⟩ : ∃ d, ((s[k].toNat : Int) != 10) = d := ⟨_, rfl⟩
        obtain ⟨d35, hd35⟩ : ∃ d, ((s[k].toNat : Int) == 35) = d := ⟨_, rfl⟩
        have e10 : decide (¬ s[k].toNat = 10) = d10 := by rw [← hd10]; rw [Bool.eq_iff_iff]; simp; omega
        have e35 : decide (s[k].toNat = 35) = d35 := by rw [← hd35]; rw [Bool.eq_iff_iff]; simp; omega
        rw [e10, e35] at HE
        clear e10 e35 hg hrun
        cases rem with
        | true =>
          cases d10
          all_goals
            go_wp2_with fail
            exact ⟨⟨k + 1, _, ts, by omega, by go_num, rfl, d0, hrow, by omega, HE, hbl, hN3⟩, by simp [intOf]; omega⟩
        | false =>
          obtain rfl : g = true := by simpa using hgap
          cases d10 <;> cases d35
          all_goals
            go_wp2_with (go_at_call 48; refine (HC1.out _).mono ?_; rintro e w' ⟨rfl, rfl⟩)
            exact ⟨⟨k + 1, _, ts, by omega, by go_num, rfl, d0, hrow, by omega, HE, hbl, hN3⟩, by simp [intOf]; omega⟩
      · obtain rfl : rem = false := by cases rem <;> simp_all
        have hg : gapL.contains s[k] = false := by simpa using hgap
        rw [hg] at HC1
        clear hgap
        have hr2 := run_bad s false k hk
        have hr3 := run_tok s false k hk
        rw [aft_here s k hlt hg] at hr2 hr3
        clear hg
        have HR0 : Hid (run s false 0 = (ts ++ (run s false k).1, (run s false k).2)) := hrun
        clear hrun
        unfold badAt at hr2
        unfold tokAt at hr3
        have HC2 : Hid _ := Letter_calls s[k]
        have HC3 : Hid _ := Digit_calls s[k]
        have HC4 : Hid (∀ w, Calls Tryz.prog 48 #[.int .u8 (s[k].toNat : Int), .string ⟨#[40, 41, 92, 46, 44, 59, 58, 61, 62, 60, 91, 93, 123, 125, 33, 63, 64]⟩] w fun e w' => e = .returned (.bool (signB s[k])) ∧ w = w') := fun w => among_const s[k] signL _ rfl (by decide) w
        have hfr : fr s k = if letterB s[k] = true then (1, ((s.data.toList.drop k).takeWhile wordB).length) else if digitB s[k] = true then (2, ((s.data.toList.drop k).takeWhile digitB).length) else if (s.data.toList.drop k).take 2 = [45, 62] then (3, 2) else if signB s[k] = true then (3, 1) else (0, 1) := by
          unfold fr front
          have hd := drop_cons s k hlt
          rw [hd]
        by_cases h1 : letterB s[k] = true
        · rw [if_pos h1] at hfr
          rw [h1] at HC2
          rw [hfr] at hr2 hr3
          simp only at hr2 hr3
          have hw := letter_word _ h1
          have htw := tw_more wordB s k hlt hw
          have hle := tw_le wordB s k hk
          generalize ((s.data.toList.drop k).takeWhile wordB).length = n at *
          have HR2 : Hid _ := hr2
          have HR3 : Hid _ := hr3
          have HTW : Hid _ := htw
          clear hr2 hr3 htw hfr h1 hw
          go_wp2_with (first | (go_at_call 48; refine (HC1.out _).mono ?_; rintro e w' ⟨rfl, rfl⟩) | (go_at_call 49; refine (HC2.out _).mono ?_; rintro e w' ⟨rfl, rfl⟩))
          obtain ⟨w0, rfl⟩ : ∃ x, x = wr := ⟨_, rfl⟩
          go_loopw [8] (fun i wr => ∃ m : Nat, 1 ≤ m ∧ k + m ≤ s.size ∧ i = .int .i64 m ∧ w0 = wr ∧ Hid (n = m + ((s.data.toList.drop (k + m)).takeWhile wordB).length))
            (fun i _ => s.size - (intOf i).toNat)
          case atStart => exact ⟨1, by omega, by omega, rfl, rfl, by show _ = _; rw [HTW.out]; omega⟩
          case round =>
            obtain ⟨m, hm1, hm2, rfl, rfl, hall⟩ := hrel
            by_cases hlt2 : k + m < s.size
            · obtain ⟨d, hd⟩ : ∃ d, wordB s[k + m] = d := ⟨_, rfl⟩
              have c0 := Inner_calls s[k + m]
              rw [hd] at c0
              have C0 : Hid _ := c0
              cases d with
              | true =>
                have HR : Hid (n = m + 1 + ((s.data.toList.drop (k + (m + 1))).takeWhile wordB).length) := by
                  show _ = _
                  rw [hall.out, tw_more wordB s (k + m) hlt2 hd]
                  rw [show k + m + 1 = k + (m + 1) by omega]; omega
                clear hall hd c0
                go_wp2_with (go_at_call 50; refine (C0.out _).mono ?_; rintro e w' ⟨rfl, rfl⟩)
                exact ⟨⟨m + 1, by omega, by omega, by go_num, trivial, HR⟩, by simp [intOf]; omega⟩
              | false =>
                obtain rfl : n = m := by
                  have := hall.out
                  rw [tw_stop wordB s (k + m) hlt2 hd] at this; omega
                clear hall hd c0
                by_cases hlong : 30 < n
                · have HE : Hid (run s false 0 = (ts, some ⟨2, k, headB (s.extract k (k + n))⟩)) := by
                    show _ = _
                    have hck : check 1 n = 2 := by simp [check]; omega
                    rw [HR0.out, HR2.out (by rw [hck]; omega), hck, badWord_some _ _ (by omega)]; simp
                  have HCm := refOf_calls s (by omega) k hk
                  generalize hm : markAt s k = m0 at *
                  have HM : Hid (markAt s k = m0) := hm
                  clear hm
                  obtain ⟨L, C⟩ := m0
                  simp only at HCm
                  have HCM : Hid _ := HCm
                  clear HCm
                  have cH := refHead_calls (s.extract k (k + n)) (by rw [ByteArray.size_extract]; omega)
                  generalize headB (s.extract k (k + n)) = wd at *
                  have CH : Hid _ := cH
                  clear cH
                  go_wp2_with (go_at_call 50; refine (C0.out _).mono ?_; rintro e w' ⟨rfl, rfl⟩)
                  have d0' : Blk w0.drew N 99 #[.int .i64 0, .int .i64 0, .int .i64 0, .string ⟨#[]⟩] := d0.drew
                  have hbl' : Below N w w0.drew := hbl.drew
                  have z1 : (0 : Int) ≤ (k : Int) := by omega
                  have z2 : (k : Int) ≤ (k : Int) + (n : Int) := by omega
                  have z3 : (k : Int) + (n : Int) ≤ (s.size : Int) := by omega
                  have z4 : IntKind.i64.wrap ((k : Int) + (n : Int)) = (k : Int) + (n : Int) := wrap_small (by omega) (by omega)
                  go_region_held3 (fun _ => True) (trivial)
                    (first
                      | (go_at_call 52; refine (HCM.out _).mono ?_; rintro e w3 ⟨rfl, hb4⟩; have i1 := d0'.below hb4 d0'.lt; have hb5 : Below N w w3 := hbl'.trans (hb4.mono (Nat.le_of_lt d0'.lt)); have q0 : w3.cell? ⟨N, 0, none⟩ = some (.int .i64 0) := i1.cell 0; have q1 : w3.cell? ⟨N, 1, none⟩ = some (.int .i64 0) := i1.cell 1; have q2 : w3.cell? ⟨N, 2, none⟩ = some (.int .i64 0) := i1.cell 2; have q3 : w3.cell? ⟨N, 3, none⟩ = some (.string ⟨#[]⟩) := i1.cell 3; have fz : ∀ j, w3.frozen? ⟨N, j, none⟩ = false := fun j => i1.frozen j)
                      | (go_at_call 53; refine (CH.out _).mono ?_; rintro e w' ⟨rfl, rfl⟩))
                  go_wp2
                  have g := (((i1.set 0 (.int .i64 2)).set 1 (.int .i64 L)).set 2 (.int .i64 C)).set 3 (.string wd)
                  have hbl5 := bset (i := 3) (bset (i := 2) (bset (i := 1) (bset (i := 0) hb5 (Nat.le_refl N) (.int .i64 2)) (Nat.le_refl N) (.int .i64 L)) (Nat.le_refl N) (.int .i64 C)) (Nat.le_refl N) (.string wd)
                  generalize (((w3.setCell ⟨N, 0, none⟩ (.int .i64 2)).setCell ⟨N, 1, none⟩ (.int .i64 L)).setCell ⟨N, 2, none⟩ (.int .i64 C)).setCell ⟨N, 3, none⟩ (.string wd) = W4 at *
                  have x0 : W4.cell? ⟨N, 0, none⟩ = some (.int .i64 2) := g.cell 0
                  have x1 : W4.cell? ⟨N, 1, none⟩ = some (.int .i64 L) := g.cell 1
                  have x2 : W4.cell? ⟨N, 2, none⟩ = some (.int .i64 C) := g.cell 2
                  have x3 : W4.cell? ⟨N, 3, none⟩ = some (.string wd) := g.cell 3
                  refine bodyPost_ret (v := .tuple #[.slice none 0 0, .agg #[.int .i64 2, .int .i64 L, .int .i64 C, .string wd]]) (by simp [results, Tryz.results38, go_sem, x0, x1, x2, x3]) rfl ⟨.slice none 0 0, ?_, ?_, hbl5⟩
                  · rw [HE.out]
                    simp only [outF, HM.out]
                    rfl
                  · rw [HE.out]
                    exact TRow.nil _ _ _

                · have hlong2 : ¬ 30 < n := hlong
                  have HE : Hid (run s false 0 = (ts ++ [⟨1, s.extract k (k + n), k⟩] ++ (run s false (k + n)).1, (run s false (k + n)).2)) := by
                    show _ = _
                    rw [HR0.out, HR3.out (by simp [check]; omega) (by simp)]; simp
                  go_wp2_with (first | (at_builtin; refine wpList_append_own _ rfl _ _ 95 rfl (N + 1) 103 i0 (.agg #[.int .i64 0, .string ⟨#[]⟩, .int .i64 0]) 3 32 Tryz.underlying95 hi hz0 hz1 hz2 rfl (by decide) _ _ _ rfl (hrow.alloc _) ⟨w0.heap.size, 0, none⟩ 1 1 [.int .i64 1, .string (s.extract k (k + n)), .int .i64 k] rfl rfl (cell_three_new _ _ _ _ _) (by simp [Value.oneCell']) (by unfold maxLen; omega) (by omega) (by simp; omega) ?_; intro v' w4 hown' hgrow _) | (go_at_call 50; refine (C0.out _).mono ?_; rintro e w' ⟨rfl, rfl⟩))
                  have hne : ∀ B, B < N + 1 → some B ≠ u4.ownBlock := by
                    intro B hB e
                    have := (World.ownsRow.lt hrow B e.symm).1
                    omega
                  have hb6 : Below N w w4 := (hbl.alloc (by omega) _).grown hgrow (by simp; omega) (fun j hj => by have := (World.ownsRow.lt hrow j hj).1; omega)
                  refine ⟨⟨k + n, false, ts ++ [⟨1, s.extract k (k + n), k⟩], by omega, by go_num, rfl, (d0.alloc _).kept hgrow (hne _ (by omega)), ?_, by simp; omega, HE, hb6, by have := hgrow.size; simp at this; omega⟩, by simp [intOf]; omega⟩
                  show w4.ownsRow _ _ _ _ _ _
                  rw [tcells_append]
                  simpa [tcells, tcell] using hown'

            · have hkm : k + m = s.size := by omega
              obtain rfl : n = m := by
                have := hall.out
                rw [hkm, tw_end] at this; omega
              clear hall hkm
              by_cases hlong : 30 < n
              · have HE : Hid (run s false 0 = (ts, some ⟨2, k, headB (s.extract k (k + n))⟩)) := by
                  show _ = _
                  have hck : check 1 n = 2 := by simp [check]; omega
                  rw [HR0.out, HR2.out (by rw [hck]; omega), hck, badWord_some _ _ (by omega)]; simp
                have HCm := refOf_calls s (by omega) k hk
                generalize hm : markAt s k = m0 at *
                have HM : Hid (markAt s k = m0) := hm
                clear hm
                obtain ⟨L, C⟩ := m0
                simp only at HCm
                have HCM : Hid _ := HCm
                clear HCm
                have cH := refHead_calls (s.extract k (k + n)) (by rw [ByteArray.size_extract]; omega)
                generalize headB (s.extract k (k + n)) = wd at *
                have CH : Hid _ := cH
                clear cH
                go_wp2_with fail
                have d0' : Blk w0.drew N 99 #[.int .i64 0, .int .i64 0, .int .i64 0, .string ⟨#[]⟩] := d0.drew
                have hbl' : Below N w w0.drew := hbl.drew
                have z1 : (0 : Int) ≤ (k : Int) := by omega
                have z2 : (k : Int) ≤ (k : Int) + (n : Int) := by omega
                have z3 : (k : Int) + (n : Int) ≤ (s.size : Int) := by omega
                have z4 : IntKind.i64.wrap ((k : Int) + (n : Int)) = (k : Int) + (n : Int) := wrap_small (by omega) (by omega)
                go_region_held3 (fun _ => True) (trivial)
                  (first
                    | (go_at_call 52; refine (HCM.out _).mono ?_; rintro e w3 ⟨rfl, hb4⟩; have i1 := d0'.below hb4 d0'.lt; have hb5 : Below N w w3 := hbl'.trans (hb4.mono (Nat.le_of_lt d0'.lt)); have q0 : w3.cell? ⟨N, 0, none⟩ = some (.int .i64 0) := i1.cell 0; have q1 : w3.cell? ⟨N, 1, none⟩ = some (.int .i64 0) := i1.cell 1; have q2 : w3.cell? ⟨N, 2, none⟩ = some (.int .i64 0) := i1.cell 2; have q3 : w3.cell? ⟨N, 3, none⟩ = some (.string ⟨#[]⟩) := i1.cell 3; have fz : ∀ j, w3.frozen? ⟨N, j, none⟩ = false := fun j => i1.frozen j)
                    | (go_at_call 53; refine (CH.out _).mono ?_; rintro e w' ⟨rfl, rfl⟩))
                go_wp2
                have g := (((i1.set 0 (.int .i64 2)).set 1 (.int .i64 L)).set 2 (.int .i64 C)).set 3 (.string wd)
                have hbl5 := bset (i := 3) (bset (i := 2) (bset (i := 1) (bset (i := 0) hb5 (Nat.le_refl N) (.int .i64 2)) (Nat.le_refl N) (.int .i64 L)) (Nat.le_refl N) (.int .i64 C)) (Nat.le_refl N) (.string wd)
                generalize (((w3.setCell ⟨N, 0, none⟩ (.int .i64 2)).setCell ⟨N, 1, none⟩ (.int .i64 L)).setCell ⟨N, 2, none⟩ (.int .i64 C)).setCell ⟨N, 3, none⟩ (.string wd) = W4 at *
                have x0 : W4.cell? ⟨N, 0, none⟩ = some (.int .i64 2) := g.cell 0
                have x1 : W4.cell? ⟨N, 1, none⟩ = some (.int .i64 L) := g.cell 1
                have x2 : W4.cell? ⟨N, 2, none⟩ = some (.int .i64 C) := g.cell 2
                have x3 : W4.cell? ⟨N, 3, none⟩ = some (.string wd) := g.cell 3
                refine bodyPost_ret (v := .tuple #[.slice none 0 0, .agg #[.int .i64 2, .int .i64 L, .int .i64 C, .string wd]]) (by simp [results, Tryz.results38, go_sem, x0, x1, x2, x3]) rfl ⟨.slice none 0 0, ?_, ?_, hbl5⟩
                · rw [HE.out]
                  simp only [outF, HM.out]
                  rfl
                · rw [HE.out]
                  exact TRow.nil _ _ _

              · have hlong2 : ¬ 30 < n := hlong
                have HE : Hid (run s false 0 = (ts ++ [⟨1, s.extract k (k + n), k⟩] ++ (run s false (k + n)).1, (run s false (k + n)).2)) := by
                  show _ = _
                  rw [HR0.out, HR3.out (by simp [check]; omega) (by simp)]; simp
                go_wp2_with (first | (at_builtin; refine wpList_append_own _ rfl _ _ 95 rfl (N + 1) 103 i0 (.agg #[.int .i64 0, .string ⟨#[]⟩, .int .i64 0]) 3 32 Tryz.underlying95 hi hz0 hz1 hz2 rfl (by decide) _ _ _ rfl (hrow.alloc _) ⟨w0.heap.size, 0, none⟩ 1 1 [.int .i64 1, .string (s.extract k (k + n)), .int .i64 k] rfl rfl (cell_three_new _ _ _ _ _) (by simp [Value.oneCell']) (by unfold maxLen; omega) (by omega) (by simp; omega) ?_; intro v' w4 hown' hgrow _))
                have hne : ∀ B, B < N + 1 → some B ≠ u4.ownBlock := by
                  intro B hB e
                  have := (World.ownsRow.lt hrow B e.symm).1
                  omega
                have hb6 : Below N w w4 := (hbl.alloc (by omega) _).grown hgrow (by simp; omega) (fun j hj => by have := (World.ownsRow.lt hrow j hj).1; omega)
                refine ⟨⟨k + n, false, ts ++ [⟨1, s.extract k (k + n), k⟩], by omega, by go_num, rfl, (d0.alloc _).kept hgrow (hne _ (by omega)), ?_, by simp; omega, HE, hb6, by have := hgrow.size; simp at this; omega⟩, by simp [intOf]; omega⟩
                show w4.ownsRow _ _ _ _ _ _
                rw [tcells_append]
                simpa [tcells, tcell] using hown'

        · rw [if_neg h1] at hfr
          have h1' : letterB s[k] = false := by simpa using h1
          rw [h1'] at HC2
          clear h1 h1'
          by_cases h2 : digitB s[k] = true
          · rw [if_pos h2] at hfr
            rw [h2] at HC3
            rw [hfr] at hr2 hr3
            simp only at hr2 hr3
            have htw := tw_more digitB s k hlt h2
            have hle := tw_le digitB s k hk
            generalize ((s.data.toList.drop k).takeWhile digitB).length = n at *
            have HR2 : Hid _ := hr2
            have HR3 : Hid _ := hr3
            have HTW : Hid _ := htw
            clear hr2 hr3 htw hfr h2
            go_wp2_with (first | (go_at_call 48; refine (HC1.out _).mono ?_; rintro e w' ⟨rfl, rfl⟩) | (go_at_call 49; refine (HC2.out _).mono ?_; rintro e w' ⟨rfl, rfl⟩) | (go_at_call 51; refine (HC3.out _).mono ?_; rintro e w' ⟨rfl, rfl⟩))
            obtain ⟨w0, rfl⟩ : ∃ x, x = wr := ⟨_, rfl⟩
            go_loopw [8] (fun i wr => ∃ m : Nat, 1 ≤ m ∧ k + m ≤ s.size ∧ i = .int .i64 m ∧ w0 = wr ∧ Hid (n = m + ((s.data.toList.drop (k + m)).takeWhile digitB).length))
              (fun i _ => s.size - (intOf i).toNat)
            case atStart => exact ⟨1, by omega, by omega, rfl, rfl, by show _ = _; rw [HTW.out]; omega⟩
            case round =>
              obtain ⟨m, hm1, hm2, rfl, rfl, hall⟩ := hrel
              by_cases hlt2 : k + m < s.size
              · obtain ⟨d, hd⟩ : ∃ d, digitB s[k + m] = d := ⟨_, rfl⟩
                have c0 := Digit_calls s[k + m]
                rw [hd] at c0
                have C0 : Hid _ := c0
                cases d with
                | true =>
                  have HR : Hid (n = m + 1 + ((s.data.toList.drop (k + (m + 1))).takeWhile digitB).length) := by
                    show _ = _
                    rw [hall.out, tw_more digitB s (k + m) hlt2 hd]
                    rw [show k + m + 1 = k + (m + 1) by omega]; omega
                  clear hall hd c0
                  go_wp2_with (go_at_call 51; refine (C0.out _).mono ?_; rintro e w' ⟨rfl, rfl⟩)
                  exact ⟨⟨m + 1, by omega, by omega, by go_num, trivial, HR⟩, by simp [intOf]; omega⟩
                | false =>
                  obtain rfl : n = m := by
                    have := hall.out
                    rw [tw_stop digitB s (k + m) hlt2 hd] at this; omega
                  clear hall hd c0
                  by_cases hlong : 9 < n
                  · have HE : Hid (run s false 0 = (ts, some ⟨2, k, headB (s.extract k (k + n))⟩)) := by
                      show _ = _
                      have hck : check 2 n = 2 := by simp [check]; omega
                      rw [HR0.out, HR2.out (by rw [hck]; omega), hck, badWord_some _ _ (by omega)]; simp
                    have HCm := refOf_calls s (by omega) k hk
                    generalize hm : markAt s k = m0 at *
                    have HM : Hid (markAt s k = m0) := hm
                    clear hm
                    obtain ⟨L, C⟩ := m0
                    simp only at HCm
                    have HCM : Hid _ := HCm
                    clear HCm
                    have cH := refHead_calls (s.extract k (k + n)) (by rw [ByteArray.size_extract]; omega)
                    generalize headB (s.extract k (k + n)) = wd at *
                    have CH : Hid _ := cH
                    clear cH
                    go_wp2_with (go_at_call 51; refine (C0.out _).mono ?_; rintro e w' ⟨rfl, rfl⟩)
                    have d0' : Blk w0.drew N 99 #[.int .i64 0, .int .i64 0, .int .i64 0, .string ⟨#[]⟩] := d0.drew
                    have hbl' : Below N w w0.drew := hbl.drew
                    have z1 : (0 : Int) ≤ (k : Int) := by omega
                    have z2 : (k : Int) ≤ (k : Int) + (n : Int) := by omega
                    have z3 : (k : Int) + (n : Int) ≤ (s.size : Int) := by omega
                    have z4 : IntKind.i64.wrap ((k : Int) + (n : Int)) = (k : Int) + (n : Int) := wrap_small (by omega) (by omega)
                    go_region_held3 (fun _ => True) (trivial)
                      (first
                        | (go_at_call 52; refine (HCM.out _).mono ?_; rintro e w3 ⟨rfl, hb4⟩; have i1 := d0'.below hb4 d0'.lt; have hb5 : Below N w w3 := hbl'.trans (hb4.mono (Nat.le_of_lt d0'.lt)); have q0 : w3.cell? ⟨N, 0, none⟩ = some (.int .i64 0) := i1.cell 0; have q1 : w3.cell? ⟨N, 1, none⟩ = some (.int .i64 0) := i1.cell 1; have q2 : w3.cell? ⟨N, 2, none⟩ = some (.int .i64 0) := i1.cell 2; have q3 : w3.cell? ⟨N, 3, none⟩ = some (.string ⟨#[]⟩) := i1.cell 3; have fz : ∀ j, w3.frozen? ⟨N, j, none⟩ = false := fun j => i1.frozen j)
                        | (go_at_call 53; refine (CH.out _).mono ?_; rintro e w' ⟨rfl, rfl⟩))
                    go_wp2
                    have g := (((i1.set 0 (.int .i64 2)).set 1 (.int .i64 L)).set 2 (.int .i64 C)).set 3 (.string wd)
                    have hbl5 := bset (i := 3) (bset (i := 2) (bset (i := 1) (bset (i := 0) hb5 (Nat.le_refl N) (.int .i64 2)) (Nat.le_refl N) (.int .i64 L)) (Nat.le_refl N) (.int .i64 C)) (Nat.le_refl N) (.string wd)
                    generalize (((w3.setCell ⟨N, 0, none⟩ (.int .i64 2)).setCell ⟨N, 1, none⟩ (.int .i64 L)).setCell ⟨N, 2, none⟩ (.int .i64 C)).setCell ⟨N, 3, none⟩ (.string wd) = W4 at *
                    have x0 : W4.cell? ⟨N, 0, none⟩ = some (.int .i64 2) := g.cell 0
                    have x1 : W4.cell? ⟨N, 1, none⟩ = some (.int .i64 L) := g.cell 1
                    have x2 : W4.cell? ⟨N, 2, none⟩ = some (.int .i64 C) := g.cell 2
                    have x3 : W4.cell? ⟨N, 3, none⟩ = some (.string wd) := g.cell 3
                    refine bodyPost_ret (v := .tuple #[.slice none 0 0, .agg #[.int .i64 2, .int .i64 L, .int .i64 C, .string wd]]) (by simp [results, Tryz.results38, go_sem, x0, x1, x2, x3]) rfl ⟨.slice none 0 0, ?_, ?_, hbl5⟩
                    · rw [HE.out]
                      simp only [outF, HM.out]
                      rfl
                    · rw [HE.out]
                      exact TRow.nil _ _ _

                  · have hlong2 : ¬ 9 < n := hlong
                    have HE : Hid (run s false 0 = (ts ++ [⟨2, s.extract k (k + n), k⟩] ++ (run s false (k + n)).1, (run s false (k + n)).2)) := by
                      show _ = _
                      rw [HR0.out, HR3.out (by simp [check]; omega) (by simp)]; simp
                    go_wp2_with (first | (at_builtin; refine wpList_append_own _ rfl _ _ 95 rfl (N + 1) 103 i0 (.agg #[.int .i64 0, .string ⟨#[]⟩, .int .i64 0]) 3 32 Tryz.underlying95 hi hz0 hz1 hz2 rfl (by decide) _ _ _ rfl (hrow.alloc _) ⟨w0.heap.size, 0, none⟩ 1 1 [.int .i64 2, .string (s.extract k (k + n)), .int .i64 k] rfl rfl (cell_three_new _ _ _ _ _) (by simp [Value.oneCell']) (by unfold maxLen; omega) (by omega) (by simp; omega) ?_; intro v' w4 hown' hgrow _) | (go_at_call 51; refine (C0.out _).mono ?_; rintro e w' ⟨rfl, rfl⟩))
                    have hne : ∀ B, B < N + 1 → some B ≠ u4.ownBlock := by
                      intro B hB e
                      have := (World.ownsRow.lt hrow B e.symm).1
                      omega
                    have hb6 : Below N w w4 := (hbl.alloc (by omega) _).grown hgrow (by simp; omega) (fun j hj => by have := (World.ownsRow.lt hrow j hj).1; omega)
                    refine ⟨⟨k + n, false, ts ++ [⟨2, s.extract k (k + n), k⟩], by omega, by go_num, rfl, (d0.alloc _).kept hgrow (hne _ (by omega)), ?_, by simp; omega, HE, hb6, by have := hgrow.size; simp at this; omega⟩, by simp [intOf]; omega⟩
                    show w4.ownsRow _ _ _ _ _ _
                    rw [tcells_append]
                    simpa [tcells, tcell] using hown'

              · have hkm : k + m = s.size := by omega
                obtain rfl : n = m := by
                  have := hall.out
                  rw [hkm, tw_end] at this; omega
                clear hall hkm
                by_cases hlong : 9 < n
                · have HE : Hid (run s false 0 = (ts, some ⟨2, k, headB (s.extract k (k + n))⟩)) := by
                    show _ = _
                    have hck : check 2 n = 2 := by simp [check]; omega
                    rw [HR0.out, HR2.out (by rw [hck]; omega), hck, badWord_some _ _ (by omega)]; simp
                  have HCm := refOf_calls s (by omega) k hk
                  generalize hm : markAt s k = m0 at *
                  have HM : Hid (markAt s k = m0) := hm
                  clear hm
                  obtain ⟨L, C⟩ := m0
                  simp only at HCm
                  have HCM : Hid _ := HCm
                  clear HCm
                  have cH := refHead_calls (s.extract k (k + n)) (by rw [ByteArray.size_extract]; omega)
                  generalize headB (s.extract k (k + n)) = wd at *
                  have CH : Hid _ := cH
                  clear cH
                  go_wp2_with fail
                  have d0' : Blk w0.drew N 99 #[.int .i64 0, .int .i64 0, .int .i64 0, .string ⟨#[]⟩] := d0.drew
                  have hbl' : Below N w w0.drew := hbl.drew
                  have z1 : (0 : Int) ≤ (k : Int) := by omega
                  have z2 : (k : Int) ≤ (k : Int) + (n : Int) := by omega
                  have z3 : (k : Int) + (n : Int) ≤ (s.size : Int) := by omega
                  have z4 : IntKind.i64.wrap ((k : Int) + (n : Int)) = (k : Int) + (n : Int) := wrap_small (by omega) (by omega)
                  go_region_held3 (fun _ => True) (trivial)
                    (first
                      | (go_at_call 52; refine (HCM.out _).mono ?_; rintro e w3 ⟨rfl, hb4⟩; have i1 := d0'.below hb4 d0'.lt; have hb5 : Below N w w3 := hbl'.trans (hb4.mono (Nat.le_of_lt d0'.lt)); have q0 : w3.cell? ⟨N, 0, none⟩ = some (.int .i64 0) := i1.cell 0; have q1 : w3.cell? ⟨N, 1, none⟩ = some (.int .i64 0) := i1.cell 1; have q2 : w3.cell? ⟨N, 2, none⟩ = some (.int .i64 0) := i1.cell 2; have q3 : w3.cell? ⟨N, 3, none⟩ = some (.string ⟨#[]⟩) := i1.cell 3; have fz : ∀ j, w3.frozen? ⟨N, j, none⟩ = false := fun j => i1.frozen j)
                      | (go_at_call 53; refine (CH.out _).mono ?_; rintro e w' ⟨rfl, rfl⟩))
                  go_wp2
                  have g := (((i1.set 0 (.int .i64 2)).set 1 (.int .i64 L)).set 2 (.int .i64 C)).set 3 (.string wd)
                  have hbl5 := bset (i := 3) (bset (i := 2) (bset (i := 1) (bset (i := 0) hb5 (Nat.le_refl N) (.int .i64 2)) (Nat.le_refl N) (.int .i64 L)) (Nat.le_refl N) (.int .i64 C)) (Nat.le_refl N) (.string wd)
                  generalize (((w3.setCell ⟨N, 0, none⟩ (.int .i64 2)).setCell ⟨N, 1, none⟩ (.int .i64 L)).setCell ⟨N, 2, none⟩ (.int .i64 C)).setCell ⟨N, 3, none⟩ (.string wd) = W4 at *
                  have x0 : W4.cell? ⟨N, 0, none⟩ = some (.int .i64 2) := g.cell 0
                  have x1 : W4.cell? ⟨N, 1, none⟩ = some (.int .i64 L) := g.cell 1
                  have x2 : W4.cell? ⟨N, 2, none⟩ = some (.int .i64 C) := g.cell 2
                  have x3 : W4.cell? ⟨N, 3, none⟩ = some (.string wd) := g.cell 3
                  refine bodyPost_ret (v := .tuple #[.slice none 0 0, .agg #[.int .i64 2, .int .i64 L, .int .i64 C, .string wd]]) (by simp [results, Tryz.results38, go_sem, x0, x1, x2, x3]) rfl ⟨.slice none 0 0, ?_, ?_, hbl5⟩
                  · rw [HE.out]
                    simp only [outF, HM.out]
                    rfl
                  · rw [HE.out]
                    exact TRow.nil _ _ _

                · have hlong2 : ¬ 9 < n := hlong
                  have HE : Hid (run s false 0 = (ts ++ [⟨2, s.extract k (k + n), k⟩] ++ (run s false (k + n)).1, (run s false (k + n)).2)) := by
                    show _ = _
                    rw [HR0.out, HR3.out (by simp [check]; omega) (by simp)]; simp
                  go_wp2_with (first | (at_builtin; refine wpList_append_own _ rfl _ _ 95 rfl (N + 1) 103 i0 (.agg #[.int .i64 0, .string ⟨#[]⟩, .int .i64 0]) 3 32 Tryz.underlying95 hi hz0 hz1 hz2 rfl (by decide) _ _ _ rfl (hrow.alloc _) ⟨w0.heap.size, 0, none⟩ 1 1 [.int .i64 2, .string (s.extract k (k + n)), .int .i64 k] rfl rfl (cell_three_new _ _ _ _ _) (by simp [Value.oneCell']) (by unfold maxLen; omega) (by omega) (by simp; omega) ?_; intro v' w4 hown' hgrow _))
                  have hne : ∀ B, B < N + 1 → some B ≠ u4.ownBlock := by
                    intro B hB e
                    have := (World.ownsRow.lt hrow B e.symm).1
                    omega
                  have hb6 : Below N w w4 := (hbl.alloc (by omega) _).grown hgrow (by simp; omega) (fun j hj => by have := (World.ownsRow.lt hrow j hj).1; omega)
                  refine ⟨⟨k + n, false, ts ++ [⟨2, s.extract k (k + n), k⟩], by omega, by go_num, rfl, (d0.alloc _).kept hgrow (hne _ (by omega)), ?_, by simp; omega, HE, hb6, by have := hgrow.size; simp at this; omega⟩, by simp [intOf]; omega⟩
                  show w4.ownsRow _ _ _ _ _ _
                  rw [tcells_append]
                  simpa [tcells, tcell] using hown'

          · rw [if_neg h2] at hfr
            have h2' : digitB s[k] = false := by simpa using h2
            rw [h2'] at HC3
            clear h2 h2'
            have hd2 := drop_cons s k hlt
            by_cases h3 : (s.data.toList.drop k).take 2 = [45, 62]
            · rw [if_pos h3] at hfr
              rw [hfr] at hr3
              obtain ⟨y1, y2, y3⟩ := (take2 s k hlt).1 h3
              have z45 : ((s[k].toNat : Int) == 45) = true := by simp; omega
              have z62 : ((s[k + 1].toNat : Int) == 62) = true := by simp; omega
              simp only at hr3
              have HR3 : Hid _ := hr3
              clear hr2 hr3 hfr h3 y1 y3 hd2
              obtain ⟨w0, rfl⟩ : ∃ x, x = wr := ⟨_, rfl⟩
              have HE : Hid (run s false 0 = (ts ++ [⟨3, s.extract k (k + 2), k⟩] ++ (run s false (k + 2)).1, (run s false (k + 2)).2)) := by
                show _ = _
                rw [HR0.out, HR3.out (by simp [check]) (by simp)]; simp
              go_wp2_with (first | (at_builtin; refine wpList_append_own _ rfl _ _ 95 rfl (N + 1) 103 i0 (.agg #[.int .i64 0, .string ⟨#[]⟩, .int .i64 0]) 3 32 Tryz.underlying95 hi hz0 hz1 hz2 rfl (by decide) _ _ _ rfl (hrow.alloc _) ⟨w0.heap.size, 0, none⟩ 1 1 [.int .i64 3, .string (s.extract k (k + 2)), .int .i64 k] rfl rfl (cell_three_new _ _ _ _ _) (by simp [Value.oneCell']) (by unfold maxLen; omega) (by omega) (by simp; omega) ?_; intro v' w4 hown' hgrow _) | (go_at_call 48; refine (HC1.out _).mono ?_; rintro e w' ⟨rfl, rfl⟩) | (go_at_call 49; refine (HC2.out _).mono ?_; rintro e w' ⟨rfl, rfl⟩) | (go_at_call 51; refine (HC3.out _).mono ?_; rintro e w' ⟨rfl, rfl⟩))
              have hne : ∀ B, B < N + 1 → some B ≠ u4.ownBlock := by
                intro B hB e
                have := (World.ownsRow.lt hrow B e.symm).1
                omega
              have hb6 : Below N w w4 := (hbl.alloc (by omega) _).grown hgrow (by simp; omega) (fun j hj => by have := (World.ownsRow.lt hrow j hj).1; omega)
              refine ⟨⟨k + 2, false, ts ++ [⟨3, s.extract k (k + 2), k⟩], by omega, by go_num, rfl, (d0.alloc _).kept hgrow (hne _ (by omega)), ?_, by simp; omega, HE, hb6, by have := hgrow.size; simp at this; omega⟩, by simp [intOf]; omega⟩
              show w4.ownsRow _ _ _ _ _ _
              rw [tcells_append]
              simpa [tcells, tcell] using hown'

            · rw [if_neg h3] at hfr
              have h3' := mt (take2 s k hlt).2 h3
              clear h3
              by_cases z45 : s[k].toNat = 45
              · have hns : signB s[k] = false := by
                  have : s[k] = 45 := UInt8.toNat_inj.1 z45
                  rw [this]; rfl
                rw [hns] at hfr HC4
                simp only [Bool.false_eq_true, if_false] at hfr
                rw [hfr] at hr2
                have HW : Hid (badWord 0 (s.extract k (k + 1)) = s.extract k (k + 1)) := bad_in s k hlt (by omega)
                have b45 : ((s[k].toNat : Int) == 45) = true := by simp; omega
                have b32 : decide ((32 : Int) < (s[k].toNat : Int)) = true := by simp; omega
                have b127 : decide ((s[k].toNat : Int) < 127) = true := by simp; omega
                simp only at hr2
                have HR2 : Hid _ := hr2
                obtain ⟨w0, rfl⟩ : ∃ x, x = wr := ⟨_, rfl⟩
                have HE : Hid (run s false 0 = (ts, some ⟨3, k, s.extract k (k + 1)⟩)) := by
                  show _ = _
                  rw [HR0.out, HR2.out (by simp [check]), HW.out]; simp [check]
                by_cases hl2 : k + 1 < s.size
                · have hn62 : ¬ s[k + 1].toNat = 62 := fun e => h3' ⟨z45, hl2, e⟩
                  have b62 : ((s[k + 1].toNat : Int) == 62) = false := by simp; omega
                  clear hr2 hr3 hfr h3' z45 hn62 hns hd2
                  have HCm := refOf_calls s (by omega) k hk
                  generalize hm : markAt s k = m0 at *
                  have HM : Hid (markAt s k = m0) := hm
                  clear hm
                  obtain ⟨L, C⟩ := m0
                  simp only at HCm
                  have HCM : Hid _ := HCm
                  clear HCm
                  go_wp2_with fail
                  refine (HC1.out _).mono ?_
                  rintro e w' ⟨rfl, rfl⟩
                  go_wp2_with (first | (go_at_call 49; refine (HC2.out _).mono ?_; rintro e w' ⟨rfl, rfl⟩) | (go_at_call 51; refine (HC3.out _).mono ?_; rintro e w' ⟨rfl, rfl⟩))
                  refine (HC4.out _).mono ?_
                  rintro e w' ⟨rfl, rfl⟩
                  go_wp2_with fail
                  refine (HCM.out _).mono ?_
                  rintro e w3 ⟨rfl, hb4⟩
                  have i1 := d0.below hb4 d0.lt
                  have hb5 : Below N w w3 := hbl.trans (hb4.mono (Nat.le_of_lt d0.lt))
                  have q0 : w3.cell? ⟨N, 0, none⟩ = some (.int .i64 0) := i1.cell 0
                  have q1 : w3.cell? ⟨N, 1, none⟩ = some (.int .i64 0) := i1.cell 1
                  have q2 : w3.cell? ⟨N, 2, none⟩ = some (.int .i64 0) := i1.cell 2
                  have q3 : w3.cell? ⟨N, 3, none⟩ = some (.string ⟨#[]⟩) := i1.cell 3
                  have fz : ∀ j, w3.frozen? ⟨N, j, none⟩ = false := fun j => i1.frozen j
                  clear hb4 d0 hrow hbl
                  go_wp2
                  have g := (((i1.set 0 (.int .i64 3)).set 1 (.int .i64 L)).set 2 (.int .i64 C)).set 3 (.string (s.extract k (k + 1)))
                  have hbl5 := bset (i := 3) (bset (i := 2) (bset (i := 1) (bset (i := 0) hb5 (Nat.le_refl N) (.int .i64 3)) (Nat.le_refl N) (.int .i64 L)) (Nat.le_refl N) (.int .i64 C)) (Nat.le_refl N) (.string (s.extract k (k + 1)))
                  generalize (((w3.setCell ⟨N, 0, none⟩ (.int .i64 3)).setCell ⟨N, 1, none⟩ (.int .i64 L)).setCell ⟨N, 2, none⟩ (.int .i64 C)).setCell ⟨N, 3, none⟩ (.string (s.extract k (k + 1))) = W4 at *
                  have x0 : W4.cell? ⟨N, 0, none⟩ = some (.int .i64 3) := g.cell 0
                  have x1 : W4.cell? ⟨N, 1, none⟩ = some (.int .i64 L) := g.cell 1
                  have x2 : W4.cell? ⟨N, 2, none⟩ = some (.int .i64 C) := g.cell 2
                  have x3 : W4.cell? ⟨N, 3, none⟩ = some (.string (s.extract k (k + 1))) := g.cell 3
                  refine bodyPost_ret (v := .tuple #[.slice none 0 0, .agg #[.int .i64 3, .int .i64 L, .int .i64 C, .string (s.extract k (k + 1))]]) (by simp [results, Tryz.results38, go_sem, x0, x1, x2, x3]) rfl ⟨.slice none 0 0, ?_, ?_, hbl5⟩
                  · rw [HE.out]
                    simp only [outF, HM.out]
                    rfl
                  · rw [HE.out]
                    exact TRow.nil _ _ _

                · clear hr2 hr3 hfr h3' z45 hns hd2
                  have HCm := refOf_calls s (by omega) k hk
                  generalize hm : markAt s k = m0 at *
                  have HM : Hid (markAt s k = m0) := hm
                  clear hm
                  obtain ⟨L, C⟩ := m0
                  simp only at HCm
                  have HCM : Hid _ := HCm
                  clear HCm
                  go_wp2_with fail
                  refine (HC1.out _).mono ?_
                  rintro e w' ⟨rfl, rfl⟩
                  go_wp2_with (first | (go_at_call 49; refine (HC2.out _).mono ?_; rintro e w' ⟨rfl, rfl⟩) | (go_at_call 51; refine (HC3.out _).mono ?_; rintro e w' ⟨rfl, rfl⟩))
                  refine (HC4.out _).mono ?_
                  rintro e w' ⟨rfl, rfl⟩
                  go_wp2_with fail
                  refine (HCM.out _).mono ?_
                  rintro e w3 ⟨rfl, hb4⟩
                  have i1 := d0.below hb4 d0.lt
                  have hb5 : Below N w w3 := hbl.trans (hb4.mono (Nat.le_of_lt d0.lt))
                  have q0 : w3.cell? ⟨N, 0, none⟩ = some (.int .i64 0) := i1.cell 0
                  have q1 : w3.cell? ⟨N, 1, none⟩ = some (.int .i64 0) := i1.cell 1
                  have q2 : w3.cell? ⟨N, 2, none⟩ = some (.int .i64 0) := i1.cell 2
                  have q3 : w3.cell? ⟨N, 3, none⟩ = some (.string ⟨#[]⟩) := i1.cell 3
                  have fz : ∀ j, w3.frozen? ⟨N, j, none⟩ = false := fun j => i1.frozen j
                  clear hb4 d0 hrow hbl
                  go_wp2
                  have g := (((i1.set 0 (.int .i64 3)).set 1 (.int .i64 L)).set 2 (.int .i64 C)).set 3 (.string (s.extract k (k + 1)))
                  have hbl5 := bset (i := 3) (bset (i := 2) (bset (i := 1) (bset (i := 0) hb5 (Nat.le_refl N) (.int .i64 3)) (Nat.le_refl N) (.int .i64 L)) (Nat.le_refl N) (.int .i64 C)) (Nat.le_refl N) (.string (s.extract k (k + 1)))
                  generalize (((w3.setCell ⟨N, 0, none⟩ (.int .i64 3)).setCell ⟨N, 1, none⟩ (.int .i64 L)).setCell ⟨N, 2, none⟩ (.int .i64 C)).setCell ⟨N, 3, none⟩ (.string (s.extract k (k + 1))) = W4 at *
                  have x0 : W4.cell? ⟨N, 0, none⟩ = some (.int .i64 3) := g.cell 0
                  have x1 : W4.cell? ⟨N, 1, none⟩ = some (.int .i64 L) := g.cell 1
                  have x2 : W4.cell? ⟨N, 2, none⟩ = some (.int .i64 C) := g.cell 2
                  have x3 : W4.cell? ⟨N, 3, none⟩ = some (.string (s.extract k (k + 1))) := g.cell 3
                  refine bodyPost_ret (v := .tuple #[.slice none 0 0, .agg #[.int .i64 3, .int .i64 L, .int .i64 C, .string (s.extract k (k + 1))]]) (by simp [results, Tryz.results38, go_sem, x0, x1, x2, x3]) rfl ⟨.slice none 0 0, ?_, ?_, hbl5⟩
                  · rw [HE.out]
                    simp only [outF, HM.out]
                    rfl
                  · rw [HE.out]
                    exact TRow.nil _ _ _

              · have b45 : ((s[k].toNat : Int) == 45) = false := by simp; omega
                clear h3' z45 hd2
                by_cases h4 : signB s[k] = true
                · rw [if_pos h4] at hfr
                  rw [h4] at HC4
                  rw [hfr] at hr3
                  simp only at hr3
                  have HR3 : Hid _ := hr3
                  clear hr2 hr3 hfr h4
                  obtain ⟨w0, rfl⟩ : ∃ x, x = wr := ⟨_, rfl⟩
                  have HE : Hid (run s false 0 = (ts ++ [⟨3, s.extract k (k + 1), k⟩] ++ (run s false (k + 1)).1, (run s false (k + 1)).2)) := by
                    show _ = _
                    rw [HR0.out, HR3.out (by simp [check]) (by simp)]; simp
                  go_wp2_with fail
                  refine (HC1.out _).mono ?_
                  rintro e w' ⟨rfl, rfl⟩
                  go_wp2_with (first | (go_at_call 49; refine (HC2.out _).mono ?_; rintro e w' ⟨rfl, rfl⟩) | (go_at_call 51; refine (HC3.out _).mono ?_; rintro e w' ⟨rfl, rfl⟩))
                  refine (HC4.out _).mono ?_
                  rintro e w' ⟨rfl, rfl⟩
                  go_wp2_with (first | (at_builtin; refine wpList_append_own _ rfl _ _ 95 rfl (N + 1) 103 i0 (.agg #[.int .i64 0, .string ⟨#[]⟩, .int .i64 0]) 3 32 Tryz.underlying95 hi hz0 hz1 hz2 rfl (by decide) _ _ _ rfl (hrow.alloc _) ⟨w0.heap.size, 0, none⟩ 1 1 [.int .i64 3, .string (s.extract k (k + 1)), .int .i64 k] rfl rfl (cell_three_new _ _ _ _ _) (by simp [Value.oneCell']) (by unfold maxLen; omega) (by omega) (by simp; omega) ?_; intro v' w4 hown' hgrow _))
                  have hne : ∀ B, B < N + 1 → some B ≠ u4.ownBlock := by
                    intro B hB e
                    have := (World.ownsRow.lt hrow B e.symm).1
                    omega
                  have hb6 : Below N w w4 := (hbl.alloc (by omega) _).grown hgrow (by simp; omega) (fun j hj => by have := (World.ownsRow.lt hrow j hj).1; omega)
                  refine ⟨⟨k + 1, false, ts ++ [⟨3, s.extract k (k + 1), k⟩], by omega, by go_num, rfl, (d0.alloc _).kept hgrow (hne _ (by omega)), ?_, by simp; omega, HE, hb6, by have := hgrow.size; simp at this; omega⟩, by simp [intOf]; omega⟩
                  show w4.ownsRow _ _ _ _ _ _
                  rw [tcells_append]
                  simpa [tcells, tcell] using hown'

                · rw [if_neg h4] at hfr
                  have h4' : signB s[k] = false := by simpa using h4
                  rw [h4'] at HC4
                  rw [hfr] at hr2
                  simp only at hr2
                  have HR2 : Hid _ := hr2
                  clear h4 h4' hfr
                  obtain ⟨w0, rfl⟩ : ∃ x, x = wr := ⟨_, rfl⟩
                  by_cases b32 : 32 < s[k].toNat
                  · have b32' : decide ((32 : Int) < (s[k].toNat : Int)) = true := by simp; omega
                    by_cases b127 : s[k].toNat < 127
                    · have b127' : decide ((s[k].toNat : Int) < 127) = true := by simp; omega
                      have HW : Hid (badWord 0 (s.extract k (k + 1)) = s.extract k (k + 1)) := bad_in s k hlt (by omega)
                      have HE : Hid (run s false 0 = (ts, some ⟨3, k, s.extract k (k + 1)⟩)) := by
                        show _ = _
                        rw [HR0.out, HR2.out (by simp [check]), HW.out]; simp [check]
                      clear hr2 hr3 b32 b127
                      have HCm := refOf_calls s (by omega) k hk
                      generalize hm : markAt s k = m0 at *
                      have HM : Hid (markAt s k = m0) := hm
                      clear hm
                      obtain ⟨L, C⟩ := m0
                      simp only at HCm
                      have HCM : Hid _ := HCm
                      clear HCm
                      go_wp2_with fail
                      refine (HC1.out _).mono ?_
                      rintro e w' ⟨rfl, rfl⟩
                      go_wp2_with (first | (go_at_call 49; refine (HC2.out _).mono ?_; rintro e w' ⟨rfl, rfl⟩) | (go_at_call 51; refine (HC3.out _).mono ?_; rintro e w' ⟨rfl, rfl⟩))
                      refine (HC4.out _).mono ?_
                      rintro e w' ⟨rfl, rfl⟩
                      go_wp2_with fail
                      refine (HCM.out _).mono ?_
                      rintro e w3 ⟨rfl, hb4⟩
                      have i1 := d0.below hb4 d0.lt
                      have hb5 : Below N w w3 := hbl.trans (hb4.mono (Nat.le_of_lt d0.lt))
                      have q0 : w3.cell? ⟨N, 0, none⟩ = some (.int .i64 0) := i1.cell 0
                      have q1 : w3.cell? ⟨N, 1, none⟩ = some (.int .i64 0) := i1.cell 1
                      have q2 : w3.cell? ⟨N, 2, none⟩ = some (.int .i64 0) := i1.cell 2
                      have q3 : w3.cell? ⟨N, 3, none⟩ = some (.string ⟨#[]⟩) := i1.cell 3
                      have fz : ∀ j, w3.frozen? ⟨N, j, none⟩ = false := fun j => i1.frozen j
                      clear hb4 d0 hrow hbl
                      go_wp2
                      have g := (((i1.set 0 (.int .i64 3)).set 1 (.int .i64 L)).set 2 (.int .i64 C)).set 3 (.string (s.extract k (k + 1)))
                      have hbl5 := bset (i := 3) (bset (i := 2) (bset (i := 1) (bset (i := 0) hb5 (Nat.le_refl N) (.int .i64 3)) (Nat.le_refl N) (.int .i64 L)) (Nat.le_refl N) (.int .i64 C)) (Nat.le_refl N) (.string (s.extract k (k + 1)))
                      generalize (((w3.setCell ⟨N, 0, none⟩ (.int .i64 3)).setCell ⟨N, 1, none⟩ (.int .i64 L)).setCell ⟨N, 2, none⟩ (.int .i64 C)).setCell ⟨N, 3, none⟩ (.string (s.extract k (k + 1))) = W4 at *
                      have x0 : W4.cell? ⟨N, 0, none⟩ = some (.int .i64 3) := g.cell 0
                      have x1 : W4.cell? ⟨N, 1, none⟩ = some (.int .i64 L) := g.cell 1
                      have x2 : W4.cell? ⟨N, 2, none⟩ = some (.int .i64 C) := g.cell 2
                      have x3 : W4.cell? ⟨N, 3, none⟩ = some (.string (s.extract k (k + 1))) := g.cell 3
                      refine bodyPost_ret (v := .tuple #[.slice none 0 0, .agg #[.int .i64 3, .int .i64 L, .int .i64 C, .string (s.extract k (k + 1))]]) (by simp [results, Tryz.results38, go_sem, x0, x1, x2, x3]) rfl ⟨.slice none 0 0, ?_, ?_, hbl5⟩
                      · rw [HE.out]
                        simp only [outF, HM.out]
                        rfl
                      · rw [HE.out]
                        exact TRow.nil _ _ _

                    · have b127' : decide ((s[k].toNat : Int) < 127) = false := by simp; omega
                      have HW : Hid (badWord 0 (s.extract k (k + 1)) = ⟨#[]⟩) := bad_out s k hlt (by omega)
                      have HE : Hid (run s false 0 = (ts, some ⟨3, k, ⟨#[]⟩⟩)) := by
                        show _ = _
                        rw [HR0.out, HR2.out (by simp [check]), HW.out]; simp [check]
                      clear hr2 hr3 b32 b127
                      have HCm := refOf_calls s (by omega) k hk
                      generalize hm : markAt s k = m0 at *
                      have HM : Hid (markAt s k = m0) := hm
                      clear hm
                      obtain ⟨L, C⟩ := m0
                      simp only at HCm
                      have HCM : Hid _ := HCm
                      clear HCm
                      go_wp2_with fail
                      refine (HC1.out _).mono ?_
                      rintro e w' ⟨rfl, rfl⟩
                      go_wp2_with (first | (go_at_call 49; refine (HC2.out _).mono ?_; rintro e w' ⟨rfl, rfl⟩) | (go_at_call 51; refine (HC3.out _).mono ?_; rintro e w' ⟨rfl, rfl⟩))
                      refine (HC4.out _).mono ?_
                      rintro e w' ⟨rfl, rfl⟩
                      go_wp2_with fail
                      refine (HCM.out _).mono ?_
                      rintro e w3 ⟨rfl, hb4⟩
                      have i1 := d0.below hb4 d0.lt
                      have hb5 : Below N w w3 := hbl.trans (hb4.mono (Nat.le_of_lt d0.lt))
                      have q0 : w3.cell? ⟨N, 0, none⟩ = some (.int .i64 0) := i1.cell 0
                      have q1 : w3.cell? ⟨N, 1, none⟩ = some (.int .i64 0) := i1.cell 1
                      have q2 : w3.cell? ⟨N, 2, none⟩ = some (.int .i64 0) := i1.cell 2
                      have q3 : w3.cell? ⟨N, 3, none⟩ = some (.string ⟨#[]⟩) := i1.cell 3
                      have fz : ∀ j, w3.frozen? ⟨N, j, none⟩ = false := fun j => i1.frozen j
                      clear hb4 d0 hrow hbl
                      go_wp2
                      have g := (((i1.set 0 (.int .i64 3)).set 1 (.int .i64 L)).set 2 (.int .i64 C)).set 3 (.string (⟨#[]⟩))
                      have hbl5 := bset (i := 3) (bset (i := 2) (bset (i := 1) (bset (i := 0) hb5 (Nat.le_refl N) (.int .i64 3)) (Nat.le_refl N) (.int .i64 L)) (Nat.le_refl N) (.int .i64 C)) (Nat.le_refl N) (.string (⟨#[]⟩))
                      generalize (((w3.setCell ⟨N, 0, none⟩ (.int .i64 3)).setCell ⟨N, 1, none⟩ (.int .i64 L)).setCell ⟨N, 2, none⟩ (.int .i64 C)).setCell ⟨N, 3, none⟩ (.string (⟨#[]⟩)) = W4 at *
                      have x0 : W4.cell? ⟨N, 0, none⟩ = some (.int .i64 3) := g.cell 0
                      have x1 : W4.cell? ⟨N, 1, none⟩ = some (.int .i64 L) := g.cell 1
                      have x2 : W4.cell? ⟨N, 2, none⟩ = some (.int .i64 C) := g.cell 2
                      have x3 : W4.cell? ⟨N, 3, none⟩ = some (.string (⟨#[]⟩)) := g.cell 3
                      refine bodyPost_ret (v := .tuple #[.slice none 0 0, .agg #[.int .i64 3, .int .i64 L, .int .i64 C, .string (⟨#[]⟩)]]) (by simp [results, Tryz.results38, go_sem, x0, x1, x2, x3]) rfl ⟨.slice none 0 0, ?_, ?_, hbl5⟩
                      · rw [HE.out]
                        simp only [outF, HM.out]
                        rfl
                      · rw [HE.out]
                        exact TRow.nil _ _ _

                  · have b32' : decide ((32 : Int) < (s[k].toNat : Int)) = false := by simp; omega
                    have HW : Hid (badWord 0 (s.extract k (k + 1)) = ⟨#[]⟩) := bad_out s k hlt (by omega)
                    have HE : Hid (run s false 0 = (ts, some ⟨3, k, ⟨#[]⟩⟩)) := by
                      show _ = _
                      rw [HR0.out, HR2.out (by simp [check]), HW.out]; simp [check]
                    clear hr2 hr3 b32
                    have HCm := refOf_calls s (by omega) k hk
                    generalize hm : markAt s k = m0 at *
                    have HM : Hid (markAt s k = m0) := hm
                    clear hm
                    obtain ⟨L, C⟩ := m0
                    simp only at HCm
                    have HCM : Hid _ := HCm
                    clear HCm
                    go_wp2_with fail
                    refine (HC1.out _).mono ?_
                    rintro e w' ⟨rfl, rfl⟩
                    go_wp2_with (first | (go_at_call 49; refine (HC2.out _).mono ?_; rintro e w' ⟨rfl, rfl⟩) | (go_at_call 51; refine (HC3.out _).mono ?_; rintro e w' ⟨rfl, rfl⟩))
                    refine (HC4.out _).mono ?_
                    rintro e w' ⟨rfl, rfl⟩
                    go_wp2_with fail
                    refine (HCM.out _).mono ?_
                    rintro e w3 ⟨rfl, hb4⟩
                    have i1 := d0.below hb4 d0.lt
                    have hb5 : Below N w w3 := hbl.trans (hb4.mono (Nat.le_of_lt d0.lt))
                    have q0 : w3.cell? ⟨N, 0, none⟩ = some (.int .i64 0) := i1.cell 0
                    have q1 : w3.cell? ⟨N, 1, none⟩ = some (.int .i64 0) := i1.cell 1
                    have q2 : w3.cell? ⟨N, 2, none⟩ = some (.int .i64 0) := i1.cell 2
                    have q3 : w3.cell? ⟨N, 3, none⟩ = some (.string ⟨#[]⟩) := i1.cell 3
                    have fz : ∀ j, w3.frozen? ⟨N, j, none⟩ = false := fun j => i1.frozen j
                    clear hb4 d0 hrow hbl
                    go_wp2
                    have g := (((i1.set 0 (.int .i64 3)).set 1 (.int .i64 L)).set 2 (.int .i64 C)).set 3 (.string (⟨#[]⟩))
                    have hbl5 := bset (i := 3) (bset (i := 2) (bset (i := 1) (bset (i := 0) hb5 (Nat.le_refl N) (.int .i64 3)) (Nat.le_refl N) (.int .i64 L)) (Nat.le_refl N) (.int .i64 C)) (Nat.le_refl N) (.string (⟨#[]⟩))
                    generalize (((w3.setCell ⟨N, 0, none⟩ (.int .i64 3)).setCell ⟨N, 1, none⟩ (.int .i64 L)).setCell ⟨N, 2, none⟩ (.int .i64 C)).setCell ⟨N, 3, none⟩ (.string (⟨#[]⟩)) = W4 at *
                    have x0 : W4.cell? ⟨N, 0, none⟩ = some (.int .i64 3) := g.cell 0
                    have x1 : W4.cell? ⟨N, 1, none⟩ = some (.int .i64 L) := g.cell 1
                    have x2 : W4.cell? ⟨N, 2, none⟩ = some (.int .i64 C) := g.cell 2
                    have x3 : W4.cell? ⟨N, 3, none⟩ = some (.string (⟨#[]⟩)) := g.cell 3
                    refine bodyPost_ret (v := .tuple #[.slice none 0 0, .agg #[.int .i64 3, .int .i64 L, .int .i64 C, .string (⟨#[]⟩)]]) (by simp [results, Tryz.results38, go_sem, x0, x1, x2, x3]) rfl ⟨.slice none 0 0, ?_, ?_, hbl5⟩
                    · rw [HE.out]
                      simp only [outF, HM.out]
                      rfl
                    · rw [HE.out]
                      exact TRow.nil _ _ _

    · obtain rfl : k = s.size := by omega
      have HE : Hid (run s false 0 = (ts, none)) := by
        show _ = _
        rw [hrun.out, run_last]; simp
      have q0 : wr.cell? ⟨N, 0, none⟩ = some (.int .i64 0) := d0.cell 0
      have q1 : wr.cell? ⟨N, 1, none⟩ = some (.int .i64 0) := d0.cell 1
      have q2 : wr.cell? ⟨N, 2, none⟩ = some (.int .i64 0) := d0.cell 2
      have q3 : wr.cell? ⟨N, 3, none⟩ = some (.string ⟨#[]⟩) := d0.cell 3
      have fz : ∀ j, wr.frozen? ⟨N, j, none⟩ = false := fun j => d0.frozen j
      go_wp2
      have g := (((d0.set 0 (.int .i64 0)).set 1 (.int .i64 0)).set 2 (.int .i64 0)).set 3 (.string ⟨#[]⟩)
      have hO := ((((Only.refl [N] wr).set (B := N) (by simp) 0 (.int .i64 0)).set (B := N) (by simp) 1 (.int .i64 0)).set (B := N) (by simp) 2 (.int .i64 0)).set (B := N) (by simp) 3 (.string ⟨#[]⟩)
      generalize (((wr.setCell ⟨N, 0, none⟩ (.int .i64 0)).setCell ⟨N, 1, none⟩ (.int .i64 0)).setCell ⟨N, 2, none⟩ (.int .i64 0)).setCell ⟨N, 3, none⟩ (.string ⟨#[]⟩) = W4 at *
      have x0 : W4.cell? ⟨N, 0, none⟩ = some (.int .i64 0) := g.cell 0
      have x1 : W4.cell? ⟨N, 1, none⟩ = some (.int .i64 0) := g.cell 1
      have x2 : W4.cell? ⟨N, 2, none⟩ = some (.int .i64 0) := g.cell 2
      have x3 : W4.cell? ⟨N, 3, none⟩ = some (.string ⟨#[]⟩) := g.cell 3
      refine bodyPost_ret (v := .tuple #[u4, .agg #[.int .i64 0, .int .i64 0, .int .i64 0, .string ⟨#[]⟩]]) (by simp [results, Tryz.results38, go_sem, x0, x1, x2, x3]) rfl ⟨u4, ?_, ?_, ?_⟩
      · rw [HE.out]; rfl
      · rw [HE.out]
        exact (hrow.only hO (by simp)).mono (by omega)
      · exact hbl.trans (hO.below (by omega) (by simp))

end Go.Proofs.YtdihplmlbfggjaaGreatDoor.Lx
