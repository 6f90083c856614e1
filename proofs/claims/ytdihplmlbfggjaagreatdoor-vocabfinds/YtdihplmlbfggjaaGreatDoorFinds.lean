/-
  The law of what is found of any name and of any number.
-/
import Derived.Test.YtdihplmlbfggjaaGreatDoorToTab
import Derived.Test.YtdihplmlbfggjaaGreatDoorOfTab
import Derived.Test.YtdihplmlbfggjaaGreatDoorChkTab
import Derived.Test.YtdihplmlbfggjaaGreatDoorRefFresh
import Derived.Test.YtdihplmlbfggjaaGreatDoorMeths
import Derived.Deep.DeepCutAuto
import Derived.Deep.RegionHeld3
namespace Go.Proofs.YtdihplmlbfggjaaGreatDoor
open Go Go.RowKit Go.Maps Go.Sort

theorem found_uniq {l : List ByteArray} {s : ByteArray} {n m : Int} (h : Found l s n) (k : Found l s m) : n = m := by
  rcases h with ⟨i, rfl, h1, h2⟩ | ⟨rfl, h1⟩
  · rcases k with ⟨j, rfl, k1, k2⟩ | ⟨rfl, k1⟩
    · rcases Nat.lt_trichotomy i j with hij | hij | hij
      · exact absurd rfl (k2 i s hij h1)
      · rw [hij]
      · exact absurd rfl (h2 j s hij k1)
    · rw [(inB_iff s l).2 (List.mem_of_getElem? h1)] at k1; cases k1
  · rcases k with ⟨j, rfl, k1, k2⟩ | ⟨rfl, k1⟩
    · rw [(inB_iff s l).2 (List.mem_of_getElem? k1)] at h1; cases h1
    · rfl
theorem found_ex (l : List ByteArray) (s : ByteArray) : ∃ n : Int, Found l s n := by
  have main : ∀ k, k ≤ l.length → (∃ i : Nat, i < k ∧ l[i]? = some s ∧ NoneUp l s i) ∨ NoneUp l s k := by
    intro k
    induction k with
    | zero => intro _; exact .inr (NoneUp.zero _ _)
    | succ k ih =>
      intro hk
      rcases ih (by omega) with ⟨i, h1, h2⟩ | h
      · exact .inl ⟨i, by omega, h2⟩
      · obtain ⟨t, ht⟩ : ∃ t, l[k]? = some t := ⟨_, List.getElem?_eq_getElem (by omega)⟩
        by_cases e : t = s
        · exact .inl ⟨k, by omega, by rw [← e]; exact ht, h⟩
        · exact .inr (h.step ht e)
  rcases main l.length (Nat.le_refl _) with ⟨i, _, h⟩ | h
  · exact ⟨i, .inl ⟨i, rfl, h⟩⟩
  · exact ⟨-1, .inr ⟨rfl, h.end⟩⟩
theorem found_cases {l : List ByteArray} {s : ByteArray} {n : Int} (h : Found l s n) : (∃ i : Nat, n = i ∧ l[i]? = some s ∧ inB s l = true) ∨ (n = -1 ∧ s ∉ l ∧ inB s l = false) := by
  rcases h with ⟨i, rfl, h1, _⟩ | ⟨rfl, h1⟩
  · exact .inl ⟨i, rfl, h1, (inB_iff s l).2 (List.mem_of_getElem? h1)⟩
  · exact .inr ⟨rfl, inB_false h1, h1⟩


/-- All that lay in W0 lies in w as it lay. -/
def Cur (W0 w : World) : Prop := Below W0.heap.size W0 w
theorem Cur.refl (W : World) : Cur W W := Below.refl _ _
theorem Cur.drew {W0 w : World} (h : Cur W0 w) : Cur W0 w.drew := Below.drew h
theorem Cur.then {W0 w w' : World} (h : Cur W0 w) (k : Below w.heap.size w w') : Cur W0 w' := Below.trans h (k.mono (Below.size h))
theorem Cur.cell {W0 w : World} (h : Cur W0 w) {B i : Nat} {v : Value} (hc : W0.cell? ⟨B, i, none⟩ = some v) : w.cell? ⟨B, i, none⟩ = some v := (cat h (lt_of_cell hc)).trans hc
theorem Cur.holds {W0 w : World} (h : Cur W0 w) {ok : Nat → Prop} {ts : List Ty} {v : Value} (hh : Holds W0 ok ts v) : Holds w ok ts v := hh.bel h
/-- The type is made anew, from any later world. -/
theorem Of_cur {W0 : World} (t : Ty) (ok : Nat → Prop) (sl : Value) (hh : Holds W0 ok t.args sl) (hz : t.size ≤ 1000000) : ∀ cur, Cur W0 cur → Calls Tryz.prog 16 #[tv sl t.base] cur fun e w' => ∃ ya yn yc, e = .returned (tv (.slice ya yn yc) t.base) ∧ Holds w' okT t.args (.slice ya yn yc) ∧ Cur W0 w' := fun cur hc =>
  (Of_calls t ok sl cur (hc.holds hh) hz).mono fun e w' ⟨v, h1, h2, h3⟩ => by
    obtain ⟨ya, yc, rfl, _⟩ := h2.shape
    exact ⟨ya, _, yc, h1, h2.t, hc.then h3⟩
/-- A type is held against itself, from any later world. -/
theorem Same_cur {W0 : World} (t : Ty) (ok : Nat → Prop) (sl : Value) (hh : Holds W0 ok t.args sl) (hz : t.size ≤ 1000000) : ∀ cur ya yn yc, Cur W0 cur → Holds cur okT t.args (.slice ya yn yc) → Calls Tryz.prog 15 #[tv (.slice ya yn yc) t.base, tv sl t.base] cur fun e w' => e = .returned (.bool true) ∧ Cur W0 w' := fun cur ya yn yc hc hv => by
  have h := Same_calls t t okT ok (.slice ya yn yc) sl cur hv (hc.holds hh) hz
  rw [t.same_self] at h
  exact h.mono fun e w' ⟨he, hb⟩ => ⟨he, hc.then hb⟩

set_option maxRecDepth 100000 in
set_option maxHeartbeats 6400000 in
theorem Finds_calls (bs0 : List ByteArray) (cs0 : List Cn) (va vb : Value) (nm ot : ByteArray) (n : Int) (w : World) (hS0 : HoldsS w okT bs0 va) (hC0 : HoldsC w okT cs0 vb) (fs0 : FitS bs0) (fc0 : ∀ c ∈ cs0, c.name.size ≤ 281474976710656) (hnm : nm.size ≤ 281474976710656) (hot : ot.size ≤ 281474976710656) :
    Calls Tryz.prog 3 #[tab va vb, .string nm, .string ot, .int .i64 n] w fun e w' => e = .returned (.bool true) ∧ Below w.heap.size w w' := by
  obtain ⟨N, hN⟩ : ∃ N, w.heap.size = N := ⟨_, rfl⟩
  obtain ⟨W0, hW0⟩ : ∃ W0, w.alloc (.cells #[va, vb] 25) = W0 := ⟨_, rfl⟩
  have b0 : Blk W0 N 25 #[va, vb] := by rw [← hW0]; exact Blk.new' w N 25 _ hN
  have B0 : Below N w W0 := by rw [← hW0]; exact (Below.refl N w).alloc (by omega) _
  have hTo := ToTab_calls bs0 cs0 okT va vb W0 (by rw [← hW0]; exact hS0.alloc _) (by rw [← hW0]; exact hC0.alloc _)
  obtain ⟨bs, hbs⟩ : ∃ bs, bs0.take 30 = bs := ⟨_, rfl⟩
  obtain ⟨cs, hcs⟩ : ∃ cs, cutT cs0 = cs := ⟨_, rfl⟩
  have fs : FitS bs := fun s hs => fs0 s (by rw [← hbs] at hs; exact List.mem_of_mem_take hs)
  have fc : FitC cs := by rw [← hcs]; exact cutT_fit fc0
  have fcz : ∀ c ∈ cs, c.ty.size ≤ 900000 := fun c hc => (fc c hc).2
  have hln : bs.length ≤ 30 ∧ cs.length ≤ 30 := by
    rw [← hbs, ← hcs]
    have := cutT_length cs0
    rw [List.length_take]
    omega
  have HLN : Hid _ := hln
  rw [hbs, hcs] at hTo
  obtain ⟨xa, xc, rfl, _⟩ := hS0.shape
  obtain ⟨ya, yc, rfl, _⟩ := hC0.shape
  generalize bs0.length = xn at *
  generalize cs0.length = yn at *
  have l0 := b0.lt
  clear hS0 hC0 hbs hcs hln fs0 fc0
  rw [hN]
  have c00 := b0.cell 0
  have c01 := b0.cell 1
  go_enter Tryz.func3, Tryz.ntmps3
  go_wp2_with fail
  refine hTo.mono ?_
  rintro e w1 ⟨v1, v2, rfl, hS1, hC1, hb1⟩
  have hC1' := hC1.mono (ok' := okT) (fun _ _ _ => trivial)
  have B1 : Below N w w1 := B0.trans (hb1.mono (by omega))
  have l1 : N < w1.heap.size := Nat.lt_of_lt_of_le l0 hb1.size
  obtain ⟨pa, pc, rfl, _⟩ := hS1.shape
  obtain ⟨qa, qc, rfl, _⟩ := hC1.shape
  obtain ⟨pn, hpn⟩ : ∃ pn, bs.length = pn := ⟨_, rfl⟩
  obtain ⟨qn, hqn⟩ : ∃ qn, cs.length = qn := ⟨_, rfl⟩
  rw [hpn] at hS1 ⊢
  rw [hqn] at hC1' ⊢
  clear hTo hb1 hC1 b0 B0 c00 c01 hW0
  obtain ⟨X, hX⟩ : ∃ X, w1.heap.size = X := ⟨_, rfl⟩
  obtain ⟨W1, hW1⟩ : ∃ W1, w1.alloc (.cells #[.slice pa pn pc, .slice qa qn qc] 28) = W1 := ⟨_, rfl⟩
  have bX : Blk W1 X 28 #[.slice pa pn pc, .slice qa qn qc] := by rw [← hW1]; exact Blk.new' w1 X 28 _ hX
  have hS2 : HoldsS W1 okT bs (.slice pa pn pc) := by rw [← hW1]; exact hS1.alloc _
  have hC2 : HoldsC W1 okT cs (.slice qa qn qc) := by rw [← hW1]; exact hC1'.alloc _
  have B2 : Below N w W1 := by rw [← hW1]; exact B1.alloc (by omega) _
  have hOf := OfTab_calls cs okT pa pn pc _ W1 hC2 fcz (by have := HLN.out; omega)
  have d0 := bX.cell 0
  have d1 := bX.cell 1
  have lX := bX.lt
  clear hS1 hC1' B1
  go_wp2_with fail
  refine hOf.mono ?_
  clear hW1
  rintro e w2 ⟨v3, rfl, hC3, hb2⟩
  have hC3' := hC3.mono (ok' := okT) (fun _ _ _ => trivial)
  have B3 : Below N w w2 := B2.trans (hb2.mono (by omega))
  have bX3 := bX.below hb2 bX.lt
  have hS3 := hS2.bel hb2
  have hC4 := hC2.bel hb2
  have l2 : X < w2.heap.size := bX3.lt
  obtain ⟨ra, rc, rfl, _⟩ := hC3.shape
  rw [hqn] at hC3' ⊢
  clear hOf hb2 hC3 bX hS2 hC2 B2 d0 d1
  obtain ⟨Y, hY⟩ : ∃ Y, w2.heap.size = Y := ⟨_, rfl⟩
  obtain ⟨W2, hW2⟩ : ∃ W2, w2.alloc (.cells #[.slice pa pn pc, .slice ra qn rc] 25) = W2 := ⟨_, rfl⟩
  have bY : Blk W2 Y 25 #[.slice pa pn pc, .slice ra qn rc] := by rw [← hW2]; exact Blk.new' w2 Y 25 _ hY
  have bX4 : Blk W2 X 28 #[.slice pa pn pc, .slice qa qn qc] := by rw [← hW2]; exact bX3.alloc _
  have hS5 : HoldsS W2 okT bs (.slice pa pn pc) := by rw [← hW2]; exact hS3.alloc _
  have hC5 : HoldsC W2 okT cs (.slice qa qn qc) := by rw [← hW2]; exact hC4.alloc _
  have hC6 : HoldsC W2 okT cs (.slice ra qn rc) := by rw [← hW2]; exact hC3'.alloc _
  have B4 : Below N w W2 := by rw [← hW2]; exact B3.alloc (by omega) _
  have hNew := New_calls bs cs okT _ _ W2 hS5 hC5 fs fc (by have := HLN.out; omega)
  have d0 := bX4.cell 0
  have d1 := bX4.cell 1
  have lY := bY.lt
  clear hS3 hC4 hC3' B3 bX3
  go_wp2_with fail
  refine hNew.mono ?_
  clear hW2
  rintro e w3 ⟨p, rfl, hp0, hp1, hb3⟩
  have B5 : Below N w w3 := B4.trans (hb3.mono (by omega))
  have bY5 := bY.below hb3 bY.lt
  have hS7 := (hS5.mono (ok' := fun b => b < W2.heap.size) (fun _ h _ => h)).bel hb3
  have hC8 := (hC6.mono (ok' := fun b => b < W2.heap.size) (fun _ h _ => h)).bel hb3
  have lW : N < W2.heap.size ∧ Y < W2.heap.size ∧ W2.heap.size ≤ w3.heap.size := ⟨by omega, lY, hb3.size⟩
  clear hNew hb3 bY bX4 hS5 hC5 hC6 B4 d0 d1
  obtain ⟨L, hL⟩ : ∃ L, W2.heap.size = L := ⟨_, rfl⟩
  rw [hL] at hS7 hC8 lW hp1
  obtain ⟨lW1, lW2, lW3⟩ := lW
  clear lY hL
  obtain ⟨r, hr⟩ : ∃ r, chk bs cs = r := ⟨_, rfl⟩
  have HR : Hid _ := hr
  rw [hr] at hp0 hp1 ⊢
  clear hr
  have d0 := bY5.cell 0
  have d1 := bY5.cell 1
  by_cases h0 : r = 0
  · subst h0
    obtain ⟨B, rfl, hBL, hI⟩ := hp1 rfl
    clear hp0 hp1
    have hRT := rightT HR.out fs fc
    have hqn30 : qn ≤ 30 := by rw [← hqn]; exact HLN.out.2
    have HQN : Hid (cs.length = qn) := hqn
    have HPN : Hid (bs.length = pn) := hpn
    clear hqn hpn
    have hBa := Base_calls bs cs hRT nm hnm B w3 hI
    go_wp2_with fail
    refine hBa.mono ?_
    rintro e w4 ⟨c1, er1, rfl, hc1, hc1', hI4, hO4⟩
    have B6 : Below N w w4 := B5.trans (hO4.below (by omega) (fun i hi => by simp at hi; omega))
    have bY6 := bY5.only hO4 (by simp; omega)
    have hS8 := hS7.only hO4 (fun b hb => by simp; omega)
    have hC9 := hC8.only hO4 (fun b hb => by simp; omega)
    have hsz4 := hO4.size
    clear hBa hO4 bY5 hS7 hC8 B5 d0 d1 hI
    have hCo := Const_calls bs cs hRT nm hnm B w4 hI4
    go_wp2_with fail
    refine hCo.mono ?_
    rintro e w5 ⟨c2, er2, rfl, hc2, hc2', hI5, hO5⟩
    have B7 : Below N w w5 := B6.trans (hO5.below (by omega) (fun i hi => by simp at hi; omega))
    have bY7 := bY6.only hO5 (by simp; omega)
    have hS9 := (hS8.only hO5 (fun b hb => by simp; omega)).mono (ok' := okT) (fun _ _ _ => trivial)
    have hC10 := (hC9.only hO5 (fun b hb => by simp; omega)).mono (ok' := okT) (fun _ _ _ => trivial)
    have hsz5 := hO5.size
    clear hCo hO5 bY6 hS8 hC9 B6 hI4
    obtain ⟨n1, hn1⟩ := found_ex bs nm
    obtain ⟨n2, hn2⟩ := found_ex (cs.map Cn.name) nm
    have CC1 : Hid (∀ d os, Calls Tryz.prog 11 #[tab (.slice pa pn pc) (.slice ra qn rc), .string nm] (grow (redrawn w5 d) os) fun e w'' => e = .returned (.int .i64 n1) ∧ ∃ p : Regrown, w'' = grow (redrawn w5 p.d) p.os) := fun d os =>
      Calls.regrown_of ((refBase_calls bs nm okT _ ra qn rc _ (hS9.bel (below_regrown w5 d os)) (by have := HLN.out; omega)).mono fun e w' h => by
        obtain ⟨x, rfl, hx, hb⟩ := h
        exact ⟨by rw [found_uniq hx hn1], hb⟩)
    have CC2 : Hid (∀ d os, Calls Tryz.prog 12 #[tab (.slice pa pn pc) (.slice ra qn rc), .string nm] (grow (redrawn w5 d) os) fun e w'' => e = .returned (.int .i64 n2) ∧ ∃ p : Regrown, w'' = grow (redrawn w5 p.d) p.os) := fun d os =>
      Calls.regrown_of ((refConst_calls cs nm okT _ pa pn pc _ (hC10.bel (below_regrown w5 d os)) (by have := HLN.out; omega)).mono fun e w' h => by
        obtain ⟨x, rfl, hx, hb⟩ := h
        exact ⟨by rw [found_uniq hx hn2], hb⟩)
    have m0 := fun d os => cell_regrown (bY7.cell 0) d os
    have m1 := fun d os => cell_regrown (bY7.cell 1) d os
    go_wp2_with fail
    refine wp_region_quiet_below (by kernel_rfl) (by kernel_rfl) ?_
    repeat (go_big_quiet_step (first | (go_at_call 11; exact CC1.out _ _) | (go_at_call 12; exact CC2.out _ _)))
    refine wpQuiet_nil ?_
    intro w6 hw'
    obtain ⟨q, hw''⟩ := hw'
    have hb6 : Below w5.heap.size w5 w6 := by rw [hw'']; exact below_regrown _ _ _
    clear hw'' q m0 m1 CC1 CC2
    have B8 : Below N w w6 := B7.trans (hb6.mono (by omega))
    have bY8 := bY7.below hb6 bY7.lt
    have hS10 := hS9.bel hb6
    have hC11 := hC10.bel hb6
    have hI6 := hI5.bel hb6
    have hsz6 := hb6.size
    clear hb6 bY7 hS9 hC10 B7 hI5
    as_aux_lemma =>
    obtain ⟨lk, hlk⟩ : ∃ lk, lkOf cs n = lk := ⟨_, rfl⟩
    have HLK : Hid (lkOf cs n = lk) := hlk
    have hzs : lk.ty.size ≤ 900000 ∧ lk.name.size ≤ 30 := by
      rw [← hlk]
      by_cases h : 0 ≤ n ∧ n < (cs.length : Int)
      · obtain ⟨k, rfl⟩ : ∃ k : Nat, n = k := ⟨n.toNat, by omega⟩
        obtain ⟨c, hc⟩ : ∃ c, cs[k]? = some c := ⟨_, List.getElem?_eq_getElem (by omega)⟩
        rw [lkOf_in hc]
        exact ⟨fcz c (List.mem_of_getElem? hc), hRT.sm c.name (List.mem_append_right _ (List.mem_map.2 ⟨c, List.mem_of_getElem? hc, rfl⟩))⟩
      · rw [lkOf_out (by omega)]
        exact ⟨by decide +kernel, by decide +kernel⟩
    have hTy := Type_calls bs cs hRT B w6 hI6 n (by rw [hlk]; exact hzs.1)
    have hNa := fun (w : World) (h : Ix w B bs cs) => Name_calls bs cs hRT B w h n (by rw [hlk]; exact hzs.2)
    rw [hlk] at hTy hNa
    clear hlk
    obtain ⟨ln, lt, le⟩ := lk
    simp only at hTy hNa hzs
    obtain ⟨hz1, hz2⟩ := hzs
    go_wp2_with fail
    refine hTy.mono ?_
    rintro e w7 ⟨a7, m7, k7, rfl, h7, hb7⟩
    have B9 : Below N w w7 := B8.trans (hb7.mono (by omega))
    have bY9 := bY8.below hb7 bY8.lt
    have hS11 := hS10.bel hb7
    have hC12 := hC11.bel hb7
    have hI7 := hI6.bel hb7
    have hsz7 := hb7.size
    clear hTy hb7 bY8 hS10 hC11 B8 hI6
    obtain ⟨U, hU⟩ : ∃ U, w7.heap.size = U := ⟨_, rfl⟩
    obtain ⟨W8, hW8⟩ : ∃ W8, w7.alloc (.cells #[.slice a7 m7 k7, .int .i64 lt.base] 42) = W8 := ⟨_, rfl⟩
    have bU0 : Blk W8 U 42 #[.slice a7 m7 k7, .int .i64 lt.base] := by rw [← hW8]; exact Blk.new' w7 U 42 _ hU
    have BB8 : Below w7.heap.size w7 W8 := by rw [← hW8]; exact (Below.refl _ _).alloc (Nat.le_refl _) _
    have hNa8 := hNa W8 (hI7.bel BB8)
    have lU := bU0.lt
    go_wp2_with fail
    refine hNa8.mono ?_
    clear hW8
    rintro e w8 ⟨rfl, hb8⟩
    have BB9 : Below w7.heap.size w7 w8 := BB8.trans (hb8.mono BB8.size)
    have B10 : Below N w w8 := B9.trans (BB9.mono (by omega))
    have bY10 := bY9.below BB9 bY9.lt
    have bU := bU0.below hb8 bU0.lt
    have hS12 := hS11.bel BB9
    have hC13 := hC12.bel BB9
    have hI8 := hI7.bel BB9
    have h8 := h7.bel BB9
    have hsz8 := BB9.size
    have lU8 := bU.lt
    have lY8 := bY10.lt
    clear hNa hNa8 hb8 BB8 BB9 bY9 bU0 hS11 hC12 hI7 h7 B9
    have hdb := hn1.iff
    have hdc := hn2.iff
    have HN1 : Hid _ := hn1
    have HN2 : Hid _ := hn2
    go_upto_region 11 with fail
    go_cut [130] (fun s130 wx => s130 = .bool false ∧ w8 = wx)
    case first =>
      as_aux_lemma =>
      rcases found_cases hn1 with ⟨i, rfl, h1, _⟩ | ⟨rfl, h1, _⟩
      · obtain ⟨rfl, rfl⟩ := hc1 i h1
        have x1 : decide ((0 : Int) ≤ (i : Int)) = true := by simp
        have x2 : ((i : Int) != (i : Int)) = false := by simp
        rcases found_cases hn2 with ⟨j, rfl, h2, _⟩ | ⟨rfl, h2, _⟩
        · obtain ⟨rfl, rfl⟩ := hc2 j h2
          have x3 : decide ((0 : Int) ≤ (j : Int)) = true := by simp
          have x4 : ((j : Int) != (j : Int)) = false := by simp
          clear hc1 hc1' hc2 hc2' hn1 hn2 hdb hdc
          go_wp2_with fail
          go_meet
          exact ⟨rfl, rfl⟩
        · obtain ⟨rfl, rfl⟩ := hc2' h2
          clear hc1 hc1' hc2 hc2' hn1 hn2 hdb hdc
          go_wp2_with fail
          go_meet
          exact ⟨rfl, rfl⟩
      · obtain ⟨rfl, rfl⟩ := hc1' h1
        rcases found_cases hn2 with ⟨j, rfl, h2, _⟩ | ⟨rfl, h2, _⟩
        · obtain ⟨rfl, rfl⟩ := hc2 j h2
          have x3 : decide ((0 : Int) ≤ (j : Int)) = true := by simp
          have x4 : ((j : Int) != (j : Int)) = false := by simp
          clear hc1 hc1' hc2 hc2' hn1 hn2 hdb hdc
          go_wp2_with fail
          go_meet
          exact ⟨rfl, rfl⟩
        · obtain ⟨rfl, rfl⟩ := hc2' h2
          clear hc1 hc1' hc2 hc2' hn1 hn2 hdb hdc
          go_wp2_with fail
          go_meet
          exact ⟨rfl, rfl⟩
    case rest =>
    obtain ⟨rfl, rfl⟩ := hcut
    clear hc1 hc1' hc2 hc2' hn1 hn2
    as_aux_lemma =>
    have y1 := bY10.cell 1
    obtain ⟨oor, hoor⟩ : ∃ oor, decide (n < 0 ∨ (qn : Int) ≤ n) = oor := ⟨_, rfl⟩
    have HOOR : Hid (decide (n < 0 ∨ (qn : Int) ≤ n) = oor) := hoor
    clear hoor
    go_upto_region 13 with fail
    go_cut [139] (fun s139 wx => s139 = .bool oor ∧ w8 = wx)
    case first =>
      as_aux_lemma =>
      by_cases hn0 : n < 0
      · have x1 : decide (n < 0) = true := by simp; omega
        obtain rfl : oor = true := by rw [← HOOR.out]; simp; omega
        go_wp2_with fail
        go_meet
        exact ⟨rfl, rfl⟩
      · have x1 : decide (n < 0) = false := by simp; omega
        by_cases hn2 : (qn : Int) ≤ n
        · have x2 : decide ((qn : Int) ≤ n) = true := by simp; omega
          obtain rfl : oor = true := by rw [← HOOR.out]; simp; omega
          go_wp2_with fail
          go_meet
          exact ⟨rfl, rfl⟩
        · have x2 : decide ((qn : Int) ≤ n) = false := by simp; omega
          obtain rfl : oor = false := by rw [← HOOR.out]; simp; omega
          go_wp2_with fail
          go_meet
          exact ⟨rfl, rfl⟩
    case rest =>
    obtain ⟨rfl, rfl⟩ := hcut
    go_upto_if 139 with fail
    go_cut [] (fun wx => Below w8.heap.size w8 wx)
    case first =>
      as_aux_lemma =>
      by_cases hr : 0 ≤ n ∧ n < (cs.length : Int)
      · obtain ⟨k, rfl⟩ : ∃ k : Nat, n = k := ⟨n.toNat, by omega⟩
        obtain ⟨c, hc⟩ : ∃ c, cs[k]? = some c := ⟨_, List.getElem?_eq_getElem (by omega)⟩
        have hl := HLK.out
        rw [lkOf_in hc] at hl
        cases hl
        rw [HQN.out] at hr
        obtain rfl : oor = false := by rw [← HOOR.out]; simp; omega
        obtain ⟨ra2, rc2, e2, _, _, hct⟩ := hC13
        injection e2 with e3 e4 e5
        subst e3 e5
        obtain ⟨g, o, s, hra, _, q0, q1, q2, hs⟩ := hct k c hc
        subst hra
        obtain ⟨s1, s2, rfl, _⟩ := hs.shape
        have hg := lt_of_cell q0
        have x1 : (0 : Int) ≤ (k : Int) := by omega
        have x2 : (k : Int) < (qn : Int) := by omega
        have x3 : (c.name.toList == c.name.toList) = true := by simp
        have x4 : (c.name.toList != c.name.toList) = false := by simp
        generalize hsl : c.ty.args.length = sl at q1 hs
        clear hsl hct e4
        go_wp2_with fail
        have hK : ∀ v, Cur w8 v → v.cell? ⟨Y, 1, none⟩ = some (.slice (some ⟨g, o, none⟩) qn rc) ∧ v.cell? ⟨g, o + k * 3, none⟩ = some (.string c.name) ∧ v.cell? ⟨g, o + k * 3 + 1, none⟩ = some (.slice s1 sl s2) ∧ v.cell? ⟨g, o + k * 3 + 2, none⟩ = some (.int .i64 c.ty.base) ∧ v.cell? ⟨U, 0, none⟩ = some (.slice a7 m7 k7) ∧ v.cell? ⟨U, 1, none⟩ = some (.int .i64 c.ty.base) := fun v hv => ⟨hv.cell y1, hv.cell q0, hv.cell q1, hv.cell q2, hv.cell (bU.cell 0), hv.cell (bU.cell 1)⟩
        have k16 := Of_cur c.ty _ _ h8 (by omega)
        have k15 := Same_cur c.ty _ _ hs (by omega)
        have hcur := Cur.refl w8
        go_region_held3 (fun v => v.cell? ⟨Y, 1, none⟩ = some (.slice (some ⟨g, o, none⟩) qn rc) ∧ v.cell? ⟨g, o + k * 3, none⟩ = some (.string c.name) ∧ v.cell? ⟨g, o + k * 3 + 1, none⟩ = some (.slice s1 sl s2) ∧ v.cell? ⟨g, o + k * 3 + 2, none⟩ = some (.int .i64 c.ty.base) ∧ v.cell? ⟨U, 0, none⟩ = some (.slice a7 m7 k7) ∧ v.cell? ⟨U, 1, none⟩ = some (.int .i64 c.ty.base))
          (first | exact hK _ (by first | assumption | (refine Cur.drew ?_; assumption)))
          (first
            | (go_at_call 16; refine (k16 _ (by first | assumption | (refine Cur.drew ?_; assumption))).mono ?_; rintro e y16 ⟨za, zn, zc, rfl, hv16, i16⟩)
            | (go_at_call 15; refine (k15 _ _ _ _ (by first | assumption | (refine Cur.drew ?_; assumption)) hv16).mono ?_; rintro e y15 ⟨rfl, i15⟩))
        go_wp2_with fail
        go_meet
        exact i15
      · have hl := HLK.out
        rw [lkOf_out (by omega)] at hl
        cases hl
        rw [HQN.out] at hr
        obtain rfl : oor = true := by rw [← HOOR.out]; simp; omega
        go_wp2_with fail
        go_meet
        exact Below.refl _ _
    case rest =>
    have B11 : Below N w wc := B10.trans (hcut.mono (by omega))
    have bY11 := bY10.below hcut bY10.lt
    have hC14 := hC13.bel hcut
    have hS14 := hS12.bel hcut
    have hI9 := hI8.bel hcut
    have hszc := hcut.size
    have lYc := bY11.lt
    clear hcut B10 bY10 bU hC13 hS12 hI8 h8 y1
    as_aux_lemma =>
    have hTs := Types_calls bs cs hRT B wc hI9
    go_wp2_with fail
    refine hTs.mono ?_
    rintro e w9 ⟨v9, rfl, h9, hb9⟩
    have B12 : Below N w w9 := B11.trans (hb9.mono (by omega))
    have bY12 := bY11.below hb9 bY11.lt
    have hC15 := hC14.bel hb9
    have hS15 := hS14.bel hb9
    have hI10 := hI9.bel hb9
    have hsz9 := hb9.size
    have lY9 := bY12.lt
    obtain ⟨a9, c9, rfl, hcap9, hat9⟩ := h9.shape
    rw [List.length_map, HQN.out] at hcap9 ⊢
    have HA9 : Hid _ := hat9
    clear hTs hb9 B11 bY11 hC14 hS14 hI9 h9 hat9
    have y1 := bY12.cell 1
    have y2 : ((qn : Int) != (qn : Int)) = false := by simp
    go_wp2_with fail
    go_loopw [24] (fun i wr => ∃ j : Nat, j ≤ qn ∧ i = .int .i64 j ∧ Below w9.heap.size w9 wr) (fun i _ => qn - (intOf i).toNat)
    case atStart => exact ⟨0, Nat.zero_le _, rfl, Below.refl _ _⟩
    case round =>
      obtain ⟨j, hj, rfl, hbl⟩ := hrel
      as_aux_lemma =>
      by_cases hlt : j < qn
      · obtain ⟨c, hc⟩ : ∃ c, cs[j]? = some c := ⟨_, List.getElem?_eq_getElem (by rw [HQN.out]; exact hlt)⟩
        obtain ⟨ra2, rc2, e2, _, _, hct⟩ := hC15
        injection e2 with e3 e4 e5
        subst e3 e5
        obtain ⟨g, o, s, hra, _, q0, q1, q2, hs⟩ := hct j c hc
        subst hra
        obtain ⟨s1, s2, rfl, _⟩ := hs.shape
        obtain ⟨g', o', s', ha9, _, hg', p0, p1, hs'⟩ := HA9.out j c.ty (by rw [List.getElem?_map, hc]; rfl)
        subst ha9
        obtain ⟨s3, s4, rfl, _⟩ := hs'.shape
        have hg := lt_of_cell q0
        have hcz := fcz c (List.mem_of_getElem? hc)
        have x1 : (0 : Int) ≤ (j : Int) := by omega
        have x2 : (j : Int) < (qn : Int) := by omega
        have x5 : decide ((j : Int) < (qn : Int)) = true := by simp; omega
        generalize hsl : c.ty.args.length = sl at q1 hs p0 hs'
        clear hsl hct e4 hc
        have bYr := bY12.below hbl bY12.lt
        have cY1 := bYr.cell 1
        have q1r := (cat hbl hg).trans q1
        have q2r := (cat hbl hg).trans q2
        have p0r := (cat hbl hg').trans p0
        have p1r := (cat hbl hg').trans p1
        have hsr := hs.bel hbl
        have hsr' := hs'.bel hbl
        clear q0 q1 q2 p0 p1 hs hs' bYr
        go_wp2_with fail
        have hK : ∀ v, Cur wr v → v.cell? ⟨Y, 1, none⟩ = some (.slice (some ⟨g, o, none⟩) qn rc) ∧ v.cell? ⟨g', o' + j * 2, none⟩ = some (.slice s3 sl s4) ∧ v.cell? ⟨g', o' + j * 2 + 1, none⟩ = some (.int .i64 c.ty.base) ∧ v.cell? ⟨g, o + j * 3 + 1, none⟩ = some (.slice s1 sl s2) ∧ v.cell? ⟨g, o + j * 3 + 2, none⟩ = some (.int .i64 c.ty.base) := fun v hv => ⟨hv.cell cY1, hv.cell p0r, hv.cell p1r, hv.cell q1r, hv.cell q2r⟩
        have k16 := Of_cur c.ty _ _ hsr' (by omega)
        have k15 := Same_cur c.ty _ _ hsr (by omega)
        have hcur := Cur.refl wr
        go_region_held3 (fun v => v.cell? ⟨Y, 1, none⟩ = some (.slice (some ⟨g, o, none⟩) qn rc) ∧ v.cell? ⟨g', o' + j * 2, none⟩ = some (.slice s3 sl s4) ∧ v.cell? ⟨g', o' + j * 2 + 1, none⟩ = some (.int .i64 c.ty.base) ∧ v.cell? ⟨g, o + j * 3 + 1, none⟩ = some (.slice s1 sl s2) ∧ v.cell? ⟨g, o + j * 3 + 2, none⟩ = some (.int .i64 c.ty.base))
          (first | exact hK _ (by first | assumption | (refine Cur.drew ?_; assumption)))
          (first
            | (go_at_call 16; refine (k16 _ (by first | assumption | (refine Cur.drew ?_; assumption))).mono ?_; rintro e y16 ⟨za, zn, zc, rfl, hv16, i16⟩)
            | (go_at_call 15; refine (k15 _ _ _ _ (by first | assumption | (refine Cur.drew ?_; assumption)) hv16).mono ?_; rintro e y15 ⟨rfl, i15⟩))
        have hbl' : Below w9.heap.size w9 y15 := hbl.trans (Below.mono i15 hbl.size)
        go_wp2
        go_roundw
        case rel => exact ⟨j + 1, by omega, by go_num, hbl'⟩
        case measure => simp [intOf]; omega
      · obtain rfl : j = qn := by omega
        have x5 : decide ((j : Int) < (j : Int)) = false := by simp
        have B13 : Below N w wr := B12.trans (hbl.mono (by omega))
        have bY13 := bY12.below hbl bY12.lt
        have hC16 := hC15.bel hbl
        have hS16 := hS15.bel hbl
        have hI11 := hI10.bel hbl
        have hszr := hbl.size
        have lYr := bY13.lt
        clear hbl B12 bY12 hC15 hS15 hI10 y1
        as_aux_lemma =>
        obtain ⟨n3, hn3⟩ := found_ex bs ot
        obtain ⟨n4, hn4⟩ := found_ex (cs.map Cn.name) ot
        obtain ⟨d3, hd3⟩ : ∃ d, inB ot bs = d := ⟨_, rfl⟩
        obtain ⟨d4, hd4⟩ : ∃ d, inB ot (cs.map Cn.name) = d := ⟨_, rfl⟩
        have x3 : decide (0 ≤ n3) = d3 := by rw [hn3.iff, hd3]
        have x4 : decide (0 ≤ n4) = d4 := by rw [hn4.iff, hd4]
        have HHB : Hid (inB ot (names bs cs) = (d3 || d4)) := by show _ = _; rw [inB_names, hd3, hd4]
        have v0 := bY13.cell 0
        have v1 := bY13.cell 1
        have CB := (refBase_calls bs ot okT _ ra j rc wr hS16 (by have := HLN.out; omega)).mono fun e w' h => (by
          obtain ⟨x, rfl, hx, hb⟩ := h
          exact ⟨by rw [found_uniq hx hn3], hb⟩ : e = .returned (.int .i64 n3) ∧ Below wr.heap.size wr w')
        have CK := fun (w' : World) (hb : Below wr.heap.size wr w') => (refConst_calls cs ot okT _ pa pn pc w' (hC16.bel hb) (by have := HLN.out; omega)).mono fun e w'' h => (by
          obtain ⟨x, rfl, hx, hb2⟩ := h
          exact ⟨by rw [found_uniq hx hn4], hb2⟩ : e = .returned (.int .i64 n4) ∧ Below w'.heap.size w' w'')
        clear hd3 hd4 hn3 hn4
        go_upto_region 26 with fail
        go_cut [25] (fun s25 wx => s25 = .bool (d3 || d4) ∧ Below wr.heap.size wr wx)
        case first =>
          as_aux_lemma =>
          go_wp2_with fail
          refine CB.mono ?_
          rintro e w10 ⟨rfl, hb10⟩
          cases d3 with
          | true =>
            go_wp2_with fail
            go_meet
            exact ⟨rfl, hb10⟩
          | false =>
            have bY14 := bY13.below hb10 bY13.lt
            have v0 := bY14.cell 0
            have v1 := bY14.cell 1
            go_wp2_with fail
            refine (CK w10 hb10).mono ?_
            rintro e w11 ⟨rfl, hb11⟩
            have hb12 := hb10.trans (hb11.mono hb10.size)
            cases d4 <;> (go_wp2_with fail; go_meet; exact ⟨rfl, hb12⟩)
        case rest =>
        obtain ⟨rfl, hcut⟩ := hcut
        have B14 : Below N w wc := B13.trans (hcut.mono (by omega))
        have hI12 := hI11.bel hcut
        have hsz12 := hcut.size
        clear CB CK hcut B13 bY13 hC16 hS16 hI11 x3 x4 v0 v1
        as_aux_lemma =>
        have hdn : inB nm (names bs cs) = (inB nm bs || inB nm (cs.map Cn.name)) := inB_names nm bs cs
        rw [← hdb, ← hdc] at hdn
        obtain ⟨db, hdb'⟩ : ∃ d, decide (0 ≤ n1) = d := ⟨_, rfl⟩
        obtain ⟨dc, hdc'⟩ : ∃ d, decide (0 ≤ n2) = d := ⟨_, rfl⟩
        rw [hdb', hdc'] at hdn
        have HDN : Hid _ := hdn
        clear hdn hdb hdc
        obtain ⟨d34, h34⟩ : ∃ d, (d3 || d4) = d := ⟨_, rfl⟩
        rw [h34] at HHB ⊢
        clear h34
        go_wp2_with fail
        refine (known_calls _).mono ?_
        rintro e w10 ⟨rfl, hb10⟩
        have B15 : Below N w w10 := B14.trans (hb10.mono (by omega))
        have hI13 := hI12.bel hb10
        have hsz13 := hb10.size
        clear hb10 B14 hI12
        obtain ⟨Z, hZ⟩ : ∃ Z, w10.heap.size = Z := ⟨_, rfl⟩
        obtain ⟨W11, hW11⟩ : ∃ W11, w10.alloc (.cells #[.string nm, .string ot] 9) = W11 := ⟨_, rfl⟩
        have bZ : Blk W11 Z 9 #[.string nm, .string ot] := by rw [← hW11]; exact Blk.new' w10 Z 9 _ hZ
        have hI14 : Ix W11 B bs cs := by rw [← hW11]; exact hI13.bel ((Below.refl _ _).alloc (Nat.le_refl _) _)
        have B16 : Below N w W11 := by rw [← hW11]; exact B15.alloc (by omega) _
        have lB := hI13.lt
        have lZ := bZ.lt
        have hHas := Has_calls bs cs hRT [nm, ot] (fun s hs => by
          rcases List.mem_cons.1 hs with rfl | hs
          · exact hnm
          · obtain rfl : s = ot := by simpa using hs
            exact hot) (fun b => b = Z) (.slice (some ⟨Z, 0, none⟩) 2 2) B W11 hI14 ⟨some ⟨Z, 0, none⟩, 2, rfl, Nat.le_refl _, (fun h => by cases h), fun i t hi => by
            have hil := (List.getElem?_eq_some_iff.1 hi).1
            have hil2 : i < 2 := hil
            obtain rfl | rfl : i = 0 ∨ i = 1 := by omega
            · obtain rfl : nm = t := Option.some.inj hi
              exact ⟨Z, 0, rfl, rfl, bZ.cell 0⟩
            · obtain rfl : ot = t := Option.some.inj hi
              exact ⟨Z, 0, rfl, rfl, bZ.cell 1⟩⟩ (by omega) (by simp)
        have hall : ([nm, ot].all fun s => inB s (names bs cs)) = ((db || dc) && d34) := by simp [HDN.out, HHB.out]
        rw [hall] at hHas
        clear hall
        go_wp2_with fail
        refine hHas.mono ?_
        clear hW11
        rintro e w12 ⟨rfl, hI15, hO12⟩
        have B17 : Below N w w12 := B16.trans (hO12.below (by omega) (fun i hi => by simp at hi; omega))
        have hH0 := Has_calls bs cs hRT [] (fun s hs => by cases hs) (fun _ => False) (.slice none 0 0) B w12 hI15 (HoldsS.nil _ _) (by simp) (by simp)
        have hsz14 := hO12.size
        clear hHas hO12 B16 hI14
        cases db <;> cases dc <;> cases d34 <;> (
          go_wp2_with fail
          refine hH0.mono ?_
          rintro e w13 ⟨rfl, _, hO13⟩
          have B18 : Below N w w13 := B17.trans (hO13.below (by omega) (fun i hi => by simp at hi; omega))
          go_wp2
          go_ret
          exact ⟨rfl, B18⟩)
  · obtain rfl := hp0 h0
    clear hp0 hp1
    as_aux_lemma =>
    have z2 : ((r : Int) == 0) = false := by simp; omega
    have z3 : ((r : Int) != 0) = true := by simp; omega
    go_wp2_with fail
    refine (known_calls _).mono ?_
    rintro e w5 ⟨rfl, hb5⟩
    have B7 : Below N w w5 := B5.trans (hb5.mono (by omega))
    have bY7 := bY5.below hb5 bY5.lt
    have hRC := ChkTab_calls bs cs okT _ _ w5 ((hS7.bel hb5).mono (fun _ _ _ => trivial)) ((hC8.bel hb5).mono (fun _ _ _ => trivial)) fs fc (by have := HLN.out; omega)
    rw [HR.out] at hRC
    have l5 := bY7.lt
    clear hb5 bY5 hS7 hC8 B5 d0 d1
    have d0 := bY7.cell 0
    have d1 := bY7.cell 1
    go_wp2_with fail
    refine hRC.mono ?_
    rintro e w6 ⟨rfl, hb6⟩
    have B8 : Below N w w6 := B7.trans (hb6.mono (by omega))
    go_wp2
    go_ret
    exact ⟨rfl, B8⟩

end Go.Proofs.YtdihplmlbfggjaaGreatDoor
