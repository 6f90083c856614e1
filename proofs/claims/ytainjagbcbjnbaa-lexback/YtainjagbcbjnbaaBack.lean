/-
  The walk of the law LexBack: whatever the text, it answers true.
-/
import Derived.Test.YtainjagbcbjnbaaBackP
import Derived.BigQuiet
namespace Go.Proofs.Ytainjagbcbjnbaa
open Go Go.RowKit Go.Shelf Go.Sort Plain Lex

theorem wrap_small' {x : Int} (h0 : 0 ≤ x) (h1 : x ≤ 4611686018427387904) : IntKind.i64.wrap x = x := by
  rw [IntKind.wrap_i64]; omega

theorem kt_at {a b : List Tok} (h : kt a = kt b) (i : Nat) (t : Tok) (ht : b[i]? = some t) : ∃ u, a[i]? = some u ∧ u.kind = t.kind ∧ u.text = t.text := by
  have h1 : (kt b)[i]? = some (t.kind, t.text) := by simp [kt, ht]
  rw [← h] at h1
  simp only [kt, List.getElem?_map, Option.map_eq_some_iff] at h1
  obtain ⟨u, hu, e⟩ := h1
  simp only [Prod.mk.injEq] at e
  exact ⟨u, hu, e.1, e.2⟩

set_option maxRecDepth 100000 in
set_option maxHeartbeats 3200000 in
theorem LexBack_calls (s0 : ByteArray) (_hs0 : s0.size ≤ 9223372036854775807) (w : World) :
    Calls Try.prog 6 #[.string s0] w fun r w' => r = .returned (.bool true) ∧ Below w.heap.size w w' := by
  obtain ⟨N, hN⟩ : ∃ N, w.heap.size = N := ⟨_, rfl⟩
  have HN : Hid (w.heap.size = N) := hN
  obtain ⟨s, hs⟩ : ∃ s, s = cut15 s0 := ⟨_, rfl⟩
  have hsz : s.size ≤ 1500 := by rw [hs]; exact cut15_size s0
  have cS := Split_calls s (by omega)
  have hco := run_code s s.size 0 false
  obtain ⟨hgood, hlen2⟩ := run_good s s.size 0 false (by omega) (Nat.zero_le _)
  have hlen := run_len s s.size 0 false (by omega) (Nat.zero_le _)
  have hback := back s _ rfl
  have hs' : cut15 s0 = s := hs.symm
  have hsx : s0.extract 0 (min (s0.size : Int) 1500).toNat = s := hs'
  clear hs hs'
  generalize run s false 0 = r at *
  obtain ⟨ts, o⟩ := r
  simp only at hgood hlen2 hlen hback hco
  cases o with
  | some b =>
    have hb := hco b (by omega) (Nat.zero_le _) rfl
    have hcb : ((b.code : Int) == 0) = false := by simp; omega
    have hcn : ((b.code : Int) != 0) = true := by simp; omega
    have CS : Hid _ := cS
    clear cS hco hgood hlen2 hlen hback hb
    go_enter Try.func6, Try.ntmps6
    go_wp2_with fail
    refine (CS.out _).mono ?_
    rintro e w1 ⟨v, rfl, hrow, hb1⟩
    rw [hN] at hb1
    obtain ⟨a, cap, rfl, _, _⟩ := hrow.shape
    simp only [outT, outF, List.length_nil]
    obtain ⟨M, hM⟩ : ∃ M, w1.heap.size = M := ⟨_, rfl⟩
    have hNM : N ≤ M := by rw [← hM, ← HN.out]; exact hb1.size
    clear hrow hN
    go_wp2_with fail
    generalize hW : w1.alloc _ = W
    have hb2 : Below N w W := by rw [← hW]; exact hb1.alloc (by omega) _
    have hNW : N ≤ W.heap.size := by rw [← hW]; simp; omega
    clear hW
    refine (known_calls _).mono ?_
    rintro e w2 ⟨rfl, hb3⟩
    have hb4 : Below N w w2 := hb2.trans (hb3.mono hNW)
    go_wp2
    go_ret
    exact ⟨rfl, by rw [HN.out]; exact hb4⟩
  | none =>
    obtain ⟨P, hP⟩ : ∃ P : ByteArray, P = ⟨(pj ts).toArray⟩ := ⟨_, rfl⟩
    rw [← hP] at hback
    have hPl : P.size = (pj ts).length := by rw [hP]; rfl
    have hPs : P.size ≤ 3000 := by have := pj_le ts; omega
    have cS2 := Split_calls P (by omega)
    generalize run P false 0 = r2 at *
    obtain ⟨us, o2⟩ := r2
    obtain ⟨hk, ho2⟩ := hback
    simp only at hk ho2
    subst ho2
    have hul : us.length = ts.length := by
      have := congrArg List.length hk
      simpa [kt] using this
    have hpr := fun v B w h => Print_calls ts v B (by omega) (fun k => by have := pj_le (ts.take k); have := sp_take ts k; omega) w h
    rw [← hP] at hpr
    have CS : Hid _ := cS
    have CS2 : Hid _ := cS2
    have CP : Hid _ := hpr
    have HK : Hid _ := hk
    have HG : Hid _ := hgood
    clear cS cS2 hpr hk hgood hco hP hPl hlen2
    go_enter Try.func6, Try.ntmps6
    go_wp2_with fail
    refine (CS.out _).mono ?_
    rintro e w1 ⟨v, rfl, hrow, hb1⟩
    rw [hN] at hb1
    simp only [outT, outF] at hrow ⊢
    obtain ⟨M, hM⟩ : ∃ M, w1.heap.size = M := ⟨_, rfl⟩
    have hNM : N ≤ M := by rw [← hM, ← HN.out]; exact hb1.size
    rw [hN] at hrow
    clear hN
    go_wp2_with fail
    generalize hW : w1.alloc (.cells #[.int .i64 0, .int .i64 0, .int .i64 0, .string ⟨#[]⟩] 27) = W
    have hb2 : Below N w W := by rw [← hW]; exact hb1.alloc (by omega) _
    have hNW : N ≤ W.heap.size := by rw [← hW]; simp; omega
    have hrow2 : TRow W N 46 v ts := by rw [← hW]; exact hrow.alloc _
    clear hW hrow hb1 hM hNM
    refine (CP.out v N _ hrow2).mono ?_
    rintro e w2 ⟨rfl, hb3⟩
    have hb4 : Below N w w2 := hb2.trans (hb3.mono hNW)
    have hN2 : N ≤ w2.heap.size := Nat.le_trans hNW hb3.size
    have hrow3 := hrow2.below hb3
    clear hb2 hb3 hrow2 hNW
    go_wp2_with fail
    refine (CS2.out _).mono ?_
    rintro e w3 ⟨v2, rfl, hrow4, hb5⟩
    simp only [outT, outF] at hrow4 ⊢
    have hb6 : Below N w w3 := hb4.trans (hb5.mono hN2)
    have hN3 : N ≤ w3.heap.size := Nat.le_trans hN2 hb5.size
    have hrow5 := hrow3.below hb5
    generalize w2.heap.size = B2 at *
    clear hb4 hb5 hrow3
    obtain ⟨K, hK⟩ : ∃ K, w3.heap.size = K := ⟨_, rfl⟩
    go_wp2_with fail
    generalize hW : w3.alloc (.cells #[.int .i64 0, .int .i64 0, .int .i64 0, .string ⟨#[]⟩] 27) = W4
    have d0 : Blk W4 K 27 #[.int .i64 0, .int .i64 0, .int .i64 0, .string ⟨#[]⟩] := by rw [← hW]; exact Blk.new' w3 K 27 _ hK
    have hb7 : Below N w W4 := by rw [← hW]; exact hb6.alloc (by omega) _
    have hN4 : N ≤ W4.heap.size := by rw [← hW]; simp; omega
    have r1 : TRow W4 N 46 v ts := by rw [← hW]; exact hrow5.alloc _
    have r2 : TRow W4 B2 46 v2 us := by rw [← hW]; exact hrow4.alloc _
    clear hW hb6 hrow4 hrow5 hK hN3
    refine (known_calls _).mono ?_
    rintro e w5 ⟨rfl, hb8⟩
    have e0 := d0.below hb8 d0.lt
    have hb9 : Below N w w5 := hb7.trans (hb8.mono hN4)
    have r3 := r1.below hb8
    have r4 := r2.below hb8
    clear hb7 hb8 r1 r2 d0 hN4
    obtain ⟨pa, ca, rfl, hca, hA⟩ := r3.shape
    obtain ⟨pb, cb, rfl, hcb, hB⟩ := r4.shape
    have HA : Hid _ := hA
    have HB : Hid _ := hB
    clear hA hB r3 r4
    rw [hul] at hcb ⊢
    have q0 : w5.cell? ⟨K, 0, none⟩ = some (.int .i64 0) := e0.cell 0
    go_wp2_with fail
    go_loopw [7] (fun i wr => ∃ k : Nat, k ≤ ts.length ∧ i = .int .i64 k ∧ Below w5.heap.size w5 wr)
      (fun i _ => ts.length - (intOf i).toNat)
    case atStart => exact ⟨0, Nat.zero_le _, rfl, Below.refl _ _⟩
    case round =>
      obtain ⟨k, hk, rfl, hX⟩ := hrel
      clear q0 e0
      by_cases hlt : k < ts.length
      · obtain ⟨t, ht⟩ : ∃ t, ts[k]? = some t := ⟨_, List.getElem?_eq_getElem hlt⟩
        obtain ⟨u, hu, hu1, hu2⟩ := kt_at HK.out k t ht
        obtain ⟨g, rfl, _, hg, a0, a1, a2⟩ := HA.out k t ht
        obtain ⟨h, rfl, _, hh, b0, b1, b2⟩ := HB.out k u hu
        rw [hu1] at b0
        rw [hu2] at b1
        have G := HG.out t (List.mem_of_getElem? ht)
        have hx1 := G.here
        have hx2 := G.fits
        obtain ⟨kd, tx, ps⟩ := t
        simp only at a0 a1 a2 b0 b1 hx1 hx2
        have a0' := (hX.cell (p := ⟨g, k * 3, none⟩) hg).trans a0
        have a1' := (hX.cell (p := ⟨g, k * 3 + 1, none⟩) hg).trans a1
        have a2' := (hX.cell (p := ⟨g, k * 3 + 2, none⟩) hg).trans a2
        have b0' := (hX.cell (p := ⟨h, k * 3, none⟩) hh).trans b0
        have b1' := (hX.cell (p := ⟨h, k * 3 + 1, none⟩) hh).trans b1
        clear a0 a1 a2 b0 b1 b2 ht hu hu1 hu2 G
        have z1 : (0 : Int) ≤ (ps : Int) := by omega
        have z2 : (ps : Int) ≤ (ps : Int) + (tx.size : Int) := by omega
        have z3 : (ps : Int) + (tx.size : Int) ≤ (s.size : Int) := by omega
        have z4 : IntKind.i64.wrap ((ps : Int) + (tx.size : Int)) = (ps : Int) + (tx.size : Int) := wrap_small' (by omega) (by omega)
        have y1 : (0 : Int) ≤ (k : Int) := by omega
        have y2 : (k : Int) < (ts.length : Int) := by omega
        go_wp2_with fail
        go_quiet (fail)
        go_wp2
        exact ⟨⟨k + 1, by omega, by go_num, ⟨hX.os, hX.tape, hX.output, hX.size, hX.block⟩⟩, by simp [intOf]; omega⟩
      · go_wp2
        go_ret
        have hNs : N ≤ w5.heap.size := by have := hb9.size; rw [HN.out] at this; exact this
        exact ⟨rfl, by rw [HN.out]; exact hb9.trans (hX.mono hNs)⟩

end Go.Proofs.Ytainjagbcbjnbaa
