/-
  The law of words that are no names.
-/
import Derived.Test.YtdihplmlbfggjaaDoorToTab
import Derived.Test.YtdihplmlbfggjaaDoorOfTab
import Derived.Test.YtdihplmlbfggjaaDoorChkTab
import Derived.Test.YtdihplmlbfggjaaDoorRefFresh
namespace Go.Proofs.YtdihplmlbfggjaaDoor
open Go Go.RowKit Go.Maps Go.Sort

set_option maxRecDepth 100000 in
set_option maxHeartbeats 3200000 in
theorem Freshs_calls (bs0 : List ByteArray) (cs0 : List Cn) (va vb : Value) (s0 : ByteArray) (w : World) (hS0 : HoldsS w okT bs0 va) (hC0 : HoldsC w okT cs0 vb) (fs0 : FitS bs0) (fc0 : ∀ c ∈ cs0, c.name.size ≤ 281474976710656) (hs0 : s0.size ≤ 281474976710656) :
    Calls Tryd.prog 5 #[tab va vb, .string s0] w fun e w' => e = .returned (.bool true) ∧ Below w.heap.size w w' := by
  obtain ⟨N, hN⟩ : ∃ N, w.heap.size = N := ⟨_, rfl⟩
  obtain ⟨W0, hW0⟩ : ∃ W0, w.alloc (.cells #[va, vb] 25) = W0 := ⟨_, rfl⟩
  have b0 : Blk W0 N 25 #[va, vb] := by rw [← hW0]; exact Blk.new' w N 25 _ hN
  have B0 : Below N w W0 := by rw [← hW0]; exact (Below.refl N w).alloc (by omega) _
  have hTo := ToTab_calls bs0 cs0 okT va vb W0 (by rw [← hW0]; exact hS0.alloc _) (by rw [← hW0]; exact hC0.alloc _)
  obtain ⟨bs, hbs⟩ : ∃ bs, bs0.take 30 = bs := ⟨_, rfl⟩
  obtain ⟨cs, hcs⟩ : ∃ cs, cutT cs0 = cs := ⟨_, rfl⟩
  have fs : FitS bs := fun s hs => fs0 s (by rw [← hbs] at hs; exact List.mem_of_mem_take hs)
  have fc : FitC cs := by rw [← hcs]; exact cutT_fit fc0
  have fcz : ∀ c ∈ cs, c.ty.size ≤ 900000 := fun c hc => (fc c hc).2
  have hln : bs.length ≤ 30 ∧ cs.length ≤ 30 := by
    rw [← hbs, ← hcs]
    have := cutT_length cs0
    rw [List.length_take]
    omega
  have HLN : Hid _ := hln
  rw [hbs, hcs] at hTo
  obtain ⟨xa, xc, rfl, _⟩ := hS0.shape
  obtain ⟨ya, yc, rfl, _⟩ := hC0.shape
  generalize bs0.length = xn at *
  generalize cs0.length = yn at *
  have l0 := b0.lt
  clear hS0 hC0 hbs hcs hln fs0 fc0
  rw [hN]
  have c00 := b0.cell 0
  have c01 := b0.cell 1
  obtain ⟨m, hm⟩ : ∃ m, min 60 s0.size = m := ⟨_, rfl⟩
  have hmn : min (s0.size : Int) 60 = (m : Int) := by omega
  have hm0 : (0 : Int) ≤ (m : Int) := by omega
  have hm1 : (m : Int) ≤ (s0.size : Int) := by omega
  have hm2 : m ≤ s0.size := by omega
  have hm60 : m ≤ 60 := by omega
  obtain ⟨s, hs⟩ : ∃ s, s0.extract 0 m = s := ⟨_, rfl⟩
  have hsz : s.size ≤ 60 := by rw [← hs, ByteArray.size_extract]; omega
  have HS : Hid (s0.extract 0 m = s) := hs
  clear hm hs
  go_enter Tryd.func5, Tryd.ntmps5
  go_wp2_with fail
  refine hTo.mono ?_
  rintro e w1 ⟨v1, v2, rfl, hS1, hC1, hb1⟩
  have hC1' := hC1.mono (ok' := okT) (fun _ _ _ => trivial)
  have B1 : Below N w w1 := B0.trans (hb1.mono (by omega))
  have l1 : N < w1.heap.size := Nat.lt_of_lt_of_le l0 hb1.size
  obtain ⟨pa, pc, rfl, _⟩ := hS1.shape
  obtain ⟨qa, qc, rfl, _⟩ := hC1.shape
  obtain ⟨pn, hpn⟩ : ∃ pn, bs.length = pn := ⟨_, rfl⟩
  obtain ⟨qn, hqn⟩ : ∃ qn, cs.length = qn := ⟨_, rfl⟩
  rw [hpn] at hS1 ⊢
  rw [hqn] at hC1' ⊢
  clear hTo hb1 hC1 b0 B0 c00 c01 hW0
  obtain ⟨X, hX⟩ : ∃ X, w1.heap.size = X := ⟨_, rfl⟩
  obtain ⟨W1, hW1⟩ : ∃ W1, w1.alloc (.cells #[.slice pa pn pc, .slice qa qn qc] 28) = W1 := ⟨_, rfl⟩
  have bX : Blk W1 X 28 #[.slice pa pn pc, .slice qa qn qc] := by rw [← hW1]; exact Blk.new' w1 X 28 _ hX
  have hS2 : HoldsS W1 okT bs (.slice pa pn pc) := by rw [← hW1]; exact hS1.alloc _
  have hC2 : HoldsC W1 okT cs (.slice qa qn qc) := by rw [← hW1]; exact hC1'.alloc _
  have B2 : Below N w W1 := by rw [← hW1]; exact B1.alloc (by omega) _
  have hOf := OfTab_calls cs okT pa pn pc _ W1 hC2 fcz (by have := HLN.out; omega)
  have d0 := bX.cell 0
  have d1 := bX.cell 1
  have lX := bX.lt
  clear hS1 hC1' B1
  go_wp2_with fail
  refine hOf.mono ?_
  clear hW1
  rintro e w2 ⟨v3, rfl, hC3, hb2⟩
  have hC3' := hC3.mono (ok' := okT) (fun _ _ _ => trivial)
  have B3 : Below N w w2 := B2.trans (hb2.mono (by omega))
  have bX3 := bX.below hb2 bX.lt
  have hS3 := hS2.bel hb2
  have hC4 := hC2.bel hb2
  have l2 : X < w2.heap.size := bX3.lt
  obtain ⟨ra, rc, rfl, _⟩ := hC3.shape
  rw [hqn] at hC3' ⊢
  clear hOf hb2 hC3 bX hS2 hC2 B2 d0 d1
  obtain ⟨Y, hY⟩ : ∃ Y, w2.heap.size = Y := ⟨_, rfl⟩
  obtain ⟨W2, hW2⟩ : ∃ W2, w2.alloc (.cells #[.slice pa pn pc, .slice ra qn rc] 25) = W2 := ⟨_, rfl⟩
  have bY : Blk W2 Y 25 #[.slice pa pn pc, .slice ra qn rc] := by rw [← hW2]; exact Blk.new' w2 Y 25 _ hY
  have bX4 : Blk W2 X 28 #[.slice pa pn pc, .slice qa qn qc] := by rw [← hW2]; exact bX3.alloc _
  have hS5 : HoldsS W2 okT bs (.slice pa pn pc) := by rw [← hW2]; exact hS3.alloc _
  have hC5 : HoldsC W2 okT cs (.slice qa qn qc) := by rw [← hW2]; exact hC4.alloc _
  have hC6 : HoldsC W2 okT cs (.slice ra qn rc) := by rw [← hW2]; exact hC3'.alloc _
  have B4 : Below N w W2 := by rw [← hW2]; exact B3.alloc (by omega) _
  have hNew := New_calls bs cs okT _ _ W2 hS5 hC5 fs fc (by have := HLN.out; omega)
  have d0 := bX4.cell 0
  have d1 := bX4.cell 1
  have lY := bY.lt
  clear hS3 hC4 hC3' B3 bX3
  go_wp2_with fail
  rw [HS.out]
  refine hNew.mono ?_
  clear hW2
  rintro e w3 ⟨p, rfl, hp0, hp1, hb3⟩
  have B5 : Below N w w3 := B4.trans (hb3.mono (by omega))
  have bY5 := bY.below hb3 bY.lt
  have hS7 := (hS5.mono (ok' := fun b => b < W2.heap.size) (fun _ h _ => h)).bel hb3
  have hC8 := (hC6.mono (ok' := fun b => b < W2.heap.size) (fun _ h _ => h)).bel hb3
  have lW : N < W2.heap.size ∧ Y < W2.heap.size ∧ W2.heap.size ≤ w3.heap.size := ⟨by omega, lY, hb3.size⟩
  clear hNew hb3 bY bX4 hS5 hC5 hC6 B4 d0 d1
  obtain ⟨L, hL⟩ : ∃ L, W2.heap.size = L := ⟨_, rfl⟩
  rw [hL] at hS7 hC8 lW hp1
  obtain ⟨lW1, lW2, lW3⟩ := lW
  clear lY hL
  obtain ⟨r, hr⟩ : ∃ r, chk bs cs = r := ⟨_, rfl⟩
  have HR : Hid _ := hr
  rw [hr] at hp0 hp1 ⊢
  clear hr
  have d0 := bY5.cell 0
  have d1 := bY5.cell 1
  by_cases h0 : r = 0
  · subst h0
    obtain ⟨B, rfl, hBL, hI⟩ := hp1 rfl
    clear hp0 hp1
    have hRT := rightT HR.out fs fc
    obtain ⟨k, hk, hin, hout⟩ := exists_cand (names bs cs) (by rw [names_length]; have := HLN.out; omega) s
    have HOUT : Hid _ := hout
    obtain ⟨res, hres⟩ : ∃ res, (if wordB s = false then Value.tuple #[.string ⟨#[]⟩, .int .i64 3] else if 30 < (cand s k).size then .tuple #[.string ⟨#[]⟩, .int .i64 2] else .tuple #[.string (cand s k), .int .i64 0]) = res := ⟨_, rfl⟩
    have hFr : Calls Tryd.prog 16 #[.pointer (some ⟨B, 0, none⟩), .string s] w3 fun e w' => e = .returned res ∧ Ix w' B bs cs ∧ Only [B] w3 w' := by
      rw [← hres]
      cases hwd : wordB s with
      | false =>
        refine (Fresh_form s (by omega) hwd B w3).mono ?_
        rintro e w' ⟨rfl, rfl⟩
        exact ⟨by rw [if_pos rfl], hI, Only.refl _ _⟩
      | true =>
        rw [if_neg (by simp)]
        exact Fresh_calls bs cs hRT s (by omega) hwd k (by omega) hin hout B w3 hI
    have hRF := fun (w4 : World) (h1 : HoldsS w4 okT bs (.slice pa pn pc)) (h2 : HoldsC w4 okT cs (.slice ra qn rc)) => refFresh_calls bs cs s hsz k hk hin hout okT _ _ w4 h1 h2 (by have := HLN.out; omega) (by have := HLN.out; omega)
    rw [hres] at hRF
    have hcase : (∃ f : Int, res = .tuple #[.string ⟨#[]⟩, .int .i64 f] ∧ (f == 0) = false ∧ (f != 0) = true) ∨ (res = .tuple #[.string (cand s k), .int .i64 0] ∧ (cand s k).size ≤ 30) := by
      rw [← hres]
      cases hwd : wordB s with
      | false => exact .inl ⟨3, by rw [if_pos rfl], rfl, rfl⟩
      | true =>
        rw [if_neg (by simp)]
        by_cases h30 : 30 < (cand s k).size
        · exact .inl ⟨2, by rw [if_pos h30], rfl, rfl⟩
        · exact .inr ⟨by rw [if_neg h30], by omega⟩
    clear hres hin hout
    go_wp2_with fail
    refine hFr.mono ?_
    rintro e w4 ⟨rfl, hI4, hO4⟩
    have B6 : Below N w w4 := B5.trans (hO4.below (by omega) (fun i hi => by simp at hi; omega))
    have bY6 := bY5.only hO4 (by simp; omega)
    have hS8 := hS7.only hO4 (fun b hb => by simp; omega)
    have hC9 := hC8.only hO4 (fun b hb => by simp; omega)
    have hsz4 := hO4.size
    clear hFr hO4 bY5 hS7 hC8 B5 d0 d1 hI
    have d0 := bY6.cell 0
    have d1 := bY6.cell 1
    have hRF4 := hRF w4 (hS8.mono (fun _ _ _ => trivial)) (hC9.mono (fun _ _ _ => trivial))
    clear hRF
    rcases hcase with ⟨f, rfl, z1, z2⟩ | ⟨rfl, h30⟩
    · go_wp2_with fail
      refine hRF4.mono ?_
      rintro e w5 ⟨rfl, hb5⟩
      have B7 : Below N w w5 := B6.trans (hb5.mono (by omega))
      have l5 := hb5.size
      clear hRF4 hb5
      have z3 : ((⟨#[]⟩ : ByteArray).toList == (⟨#[]⟩ : ByteArray).toList) = true := by simp
      have z4 : (f == f) = true := by simp
      go_wp2_with fail
      refine (known_calls _).mono ?_
      rintro e w6 ⟨rfl, hb6⟩
      have B8 : Below N w w6 := B7.trans (hb6.mono (by omega))
      clear hb6
      go_wp2
      go_ret
      exact ⟨rfl, B8⟩
    · go_wp2_with fail
      refine hRF4.mono ?_
      rintro e w5 ⟨rfl, hb5⟩
      have B7 : Below N w w5 := B6.trans (hb5.mono (by omega))
      have l5 := hb5.size
      have hI5 := hI4.bel hb5
      clear hRF4 hb5 hI4
      obtain ⟨ck, hck⟩ : ∃ ck, cand s k = ck := ⟨_, rfl⟩
      rw [hck] at HOUT h30 ⊢
      clear hck
      have z3 : (ck.toList == ck.toList) = true := by simp
      go_wp2_with fail
      refine (known_calls _).mono ?_
      rintro e w6 ⟨rfl, hb6⟩
      have B8 : Below N w w6 := B7.trans (hb6.mono (by omega))
      have hI6 := hI5.bel hb6
      have l6 := hb6.size
      clear hb6 hI5
      obtain ⟨Z, hZ⟩ : ∃ Z, w6.heap.size = Z := ⟨_, rfl⟩
      obtain ⟨W7, hW7⟩ : ∃ W7, w6.alloc (.cells #[.string ck] 9) = W7 := ⟨_, rfl⟩
      have bZ : Blk W7 Z 9 #[.string ck] := by rw [← hW7]; exact Blk.new' w6 Z 9 _ hZ
      have hI7 : Ix W7 B bs cs := by rw [← hW7]; exact hI6.bel ((Below.refl _ _).alloc (Nat.le_refl _) _)
      have B9 : Below N w W7 := by rw [← hW7]; exact B8.alloc (by omega) _
      have lB := hI6.lt
      have lZ := bZ.lt
      have hHas := Has_calls bs cs hRT [ck] (fun s hs => by
        obtain rfl : s = ck := by simpa using hs
        omega) (fun b => b = Z) (.slice (some ⟨Z, 0, none⟩) 1 1) B W7 hI7 ⟨some ⟨Z, 0, none⟩, 1, rfl, Nat.le_refl _, (fun h => by cases h), fun i t hi => by
          have : i = 0 := by have := (List.getElem?_eq_some_iff.1 hi).1; simp at this; omega
          subst this
          obtain rfl : ck = t := by simpa using hi
          exact ⟨Z, 0, rfl, rfl, bZ.cell 0⟩⟩ (by omega) (by simp)
      have hall : ([ck].all fun s => inB s (names bs cs)) = false := by simp [HOUT.out]
      rw [hall] at hHas
      clear hall
      go_wp2_with fail
      refine hHas.mono ?_
      clear hW7
      rintro e w8 ⟨rfl, _, hO8⟩
      have B10 : Below N w w8 := B9.trans (hO8.below (by omega) (fun i hi => by simp at hi; omega))
      go_wp2
      go_ret
      exact ⟨rfl, B10⟩
  · obtain rfl := hp0 h0
    clear hp0 hp1
    have z2 : ((r : Int) == 0) = false := by simp; omega
    have z3 : ((r : Int) != 0) = true := by simp; omega
    go_wp2_with fail
    refine (known_calls _).mono ?_
    rintro e w5 ⟨rfl, hb5⟩
    have B7 : Below N w w5 := B5.trans (hb5.mono (by omega))
    have bY7 := bY5.below hb5 bY5.lt
    have hRC := ChkTab_calls bs cs okT _ _ w5 ((hS7.bel hb5).mono (fun _ _ _ => trivial)) ((hC8.bel hb5).mono (fun _ _ _ => trivial)) fs fc (by have := HLN.out; omega)
    rw [HR.out] at hRC
    have l5 := bY7.lt
    clear hb5 bY5 hS7 hC8 B5 d0 d1
    have d0 := bY7.cell 0
    have d1 := bY7.cell 1
    go_wp2_with fail
    refine hRC.mono ?_
    rintro e w6 ⟨rfl, hb6⟩
    have B8 : Below N w w6 := B7.trans (hb6.mono (by omega))
    go_wp2
    go_ret
    exact ⟨rfl, B8⟩

end Go.Proofs.YtdihplmlbfggjaaDoor
