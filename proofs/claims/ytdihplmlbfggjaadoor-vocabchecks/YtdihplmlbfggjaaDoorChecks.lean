/-
  The law of which tables are right.
-/
import Derived.Test.YtdihplmlbfggjaaDoorToTab
import Derived.Test.YtdihplmlbfggjaaDoorOfTab
import Derived.Test.YtdihplmlbfggjaaDoorSameTab
import Derived.Test.YtdihplmlbfggjaaDoorChkTab
namespace Go.Proofs.YtdihplmlbfggjaaDoor
open Go Go.RowKit Go.Maps Go.Sort

def actK7 (X Y B : Nat) (y0 y1 y7 y8 y9 y10 y11 y12 y13 y14 y15 y16 y17 y18 y19 y20 y21 y22 y23 y24 y25 y26 y27 y28 y29 y30 y31 y32 y33 y34 y35 y36 y37 y38 : Value) (u : Nat → Value) : Act :=
  { tmps := #[y0, y1, u 2, .pointer (some ⟨X, 0, none⟩), .pointer (some ⟨Y, 0, none⟩), .pointer (some ⟨B, 0, none⟩), .int .i64 0, y7, y8, y9, y10, y11, y12, y13, y14, y15, y16, y17, y18, y19, y20, y21, y22, y23, y24, y25, y26, y27, y28, y29, y30, y31, y32, y33, y34, y35, y36, y37, y38, u 39, u 40, u 41, u 42, u 43, u 44, u 45, u 46, u 47, u 48, u 49, u 50, u 51, u 52, u 53], defers := [] }
theorem over_actK7 (X Y B : Nat) (y0 y1 y7 y8 y9 y10 y11 y12 y13 y14 y15 y16 y17 y18 y19 y20 y21 y22 y23 y24 y25 y26 y27 y28 y29 y30 y31 y32 y33 y34 y35 y36 y37 y38 : Value) (u0 u : Nat → Value) : over (fun s => Nat.beq s 2 || (Nat.ble 39 s && Nat.ble s 53)) u (actK7 X Y B y0 y1 y7 y8 y9 y10 y11 y12 y13 y14 y15 y16 y17 y18 y19 y20 y21 y22 y23 y24 y25 y26 y27 y28 y29 y30 y31 y32 y33 y34 y35 y36 y37 y38 u0) = actK7 X Y B y0 y1 y7 y8 y9 y10 y11 y12 y13 y14 y15 y16 y17 y18 y19 y20 y21 y22 y23 y24 y25 y26 y27 y28 y29 y30 y31 y32 y33 y34 y35 y36 y37 y38 u := rfl
def VK7 (B : Nat) (bs : List ByteArray) (cs : List Cn) (was xs : Value) (s : Nat) (w : World) (v : Value) : Prop := match s with
  | 39 => v = .int .i64 0
  | 40 => v = .bool false
  | 41 => v = .bool false
  | 42 => v = .pointer (some ⟨B, 0, none⟩)
  | 43 => ∃ a1 n1 c1 a2 n2 c2, v = tab (.slice a1 n1 c1) (.slice a2 n2 c2) ∧ HoldsS w okT bs (.slice a1 n1 c1) ∧ HoldsC w okT cs (.slice a2 n2 c2)
  | 44 => ∃ a1 n1 c1 a2 n2 c2, v = tab (.slice a1 n1 c1) (.slice a2 n2 c2) ∧ HoldsS w okT bs (.slice a1 n1 c1) ∧ HoldsC w okT cs (.slice a2 n2 c2)
  | 45 => v = was
  | 46 => v = .bool true
  | 47 => v = .bool true
  | 48 => v = xs
  | 49 => ∃ a1 n1 c1 a2 n2 c2, v = tab (.slice a1 n1 c1) (.slice a2 n2 c2) ∧ HoldsS w okT bs (.slice a1 n1 c1) ∧ HoldsC w okT cs (.slice a2 n2 c2)
  | 50 => v = was
  | 51 => v = .bool true
  | 52 => v = .bool true
  | 53 => v = .bool true
  | 2 => v = .bool true
  | _ => True
theorem VK7.mono {B : Nat} {bs : List ByteArray} {cs : List Cn} {was xs : Value} {s : Nat} {w w' : World} {v : Value} (h : VK7 B bs cs was xs s w v) (hb : Below w.heap.size w w') : VK7 B bs cs was xs s w' v := by
  revert h
  unfold VK7
  split <;> intro h
  · exact h
  · exact h
  · exact h
  · exact h
  · obtain ⟨a1, n1, c1, a2, n2, c2, e1, e2, e3⟩ := h; exact ⟨a1, n1, c1, a2, n2, c2, e1, e2.bel hb, e3.bel hb⟩
  · obtain ⟨a1, n1, c1, a2, n2, c2, e1, e2, e3⟩ := h; exact ⟨a1, n1, c1, a2, n2, c2, e1, e2.bel hb, e3.bel hb⟩
  · exact h
  · exact h
  · exact h
  · exact h
  · obtain ⟨a1, n1, c1, a2, n2, c2, e1, e2, e3⟩ := h; exact ⟨a1, n1, c1, a2, n2, c2, e1, e2.bel hb, e3.bel hb⟩
  · exact h
  · exact h
  · exact h
  · exact h
  · exact h
  · trivial

set_option maxRecDepth 100000 in
set_option maxHeartbeats 3200000 in
theorem Checks_calls (bs0 : List ByteArray) (cs0 : List Cn) (va vb : Value) (w : World) (hS0 : HoldsS w okT bs0 va) (hC0 : HoldsC w okT cs0 vb) (fs0 : FitS bs0) (fc0 : ∀ c ∈ cs0, c.name.size ≤ 281474976710656) :
    Calls Tryd.prog 3 #[tab va vb] w fun e w' => e = .returned (.bool true) ∧ Below w.heap.size w w' := by
  obtain ⟨N, hN⟩ : ∃ N, w.heap.size = N := ⟨_, rfl⟩
  obtain ⟨W0, hW0⟩ : ∃ W0, w.alloc (.cells #[va, vb] 25) = W0 := ⟨_, rfl⟩
  have b0 : Blk W0 N 25 #[va, vb] := by rw [← hW0]; exact Blk.new' w N 25 _ hN
  have B0 : Below N w W0 := by rw [← hW0]; exact (Below.refl N w).alloc (by omega) _
  have hTo := ToTab_calls bs0 cs0 okT va vb W0 (by rw [← hW0]; exact hS0.alloc _) (by rw [← hW0]; exact hC0.alloc _)
  obtain ⟨bs, hbs⟩ : ∃ bs, bs0.take 30 = bs := ⟨_, rfl⟩
  obtain ⟨cs, hcs⟩ : ∃ cs, cutT cs0 = cs := ⟨_, rfl⟩
  have fs : FitS bs := fun s hs => fs0 s (by rw [← hbs] at hs; exact List.mem_of_mem_take hs)
  have fc : FitC cs := by rw [← hcs]; exact cutT_fit fc0
  have fcz : ∀ c ∈ cs, c.ty.size ≤ 900000 := fun c hc => (fc c hc).2
  have hln : bs.length + cs.length ≤ 1000000 := by
    rw [← hbs, ← hcs]
    have := cutT_length cs0
    rw [List.length_take]
    omega
  have HLN : Hid _ := hln
  rw [hbs, hcs] at hTo
  obtain ⟨xa, xc, rfl, _⟩ := hS0.shape
  obtain ⟨ya, yc, rfl, _⟩ := hC0.shape
  generalize bs0.length = xn at *
  generalize cs0.length = yn at *
  have l0 := b0.lt
  clear hS0 hC0 hbs hcs hln fs0 fc0
  rw [hN]
  have c00 := b0.cell 0
  have c01 := b0.cell 1
  go_enter Tryd.func3, Tryd.ntmps3
  go_wp2_with fail
  refine hTo.mono ?_
  rintro e w1 ⟨v1, v2, rfl, hS1, hC1, hb1⟩
  have hC1' := hC1.mono (ok' := okT) (fun _ _ _ => trivial)
  have B1 : Below N w w1 := B0.trans (hb1.mono (by omega))
  have l1 : N < w1.heap.size := Nat.lt_of_lt_of_le l0 hb1.size
  obtain ⟨pa, pc, rfl, _⟩ := hS1.shape
  obtain ⟨qa, qc, rfl, _⟩ := hC1.shape
  obtain ⟨pn, hpn⟩ : ∃ pn, bs.length = pn := ⟨_, rfl⟩
  obtain ⟨qn, hqn⟩ : ∃ qn, cs.length = qn := ⟨_, rfl⟩
  rw [hpn] at hS1 ⊢
  rw [hqn] at hC1' ⊢
  clear hTo hb1 hC1 b0 B0 c00 c01 hW0
  obtain ⟨X, hX⟩ : ∃ X, w1.heap.size = X := ⟨_, rfl⟩
  obtain ⟨W1, hW1⟩ : ∃ W1, w1.alloc (.cells #[.slice pa pn pc, .slice qa qn qc] 28) = W1 := ⟨_, rfl⟩
  have bX : Blk W1 X 28 #[.slice pa pn pc, .slice qa qn qc] := by rw [← hW1]; exact Blk.new' w1 X 28 _ hX
  have hS2 : HoldsS W1 okT bs (.slice pa pn pc) := by rw [← hW1]; exact hS1.alloc _
  have hC2 : HoldsC W1 okT cs (.slice qa qn qc) := by rw [← hW1]; exact hC1'.alloc _
  have B2 : Below N w W1 := by rw [← hW1]; exact B1.alloc (by omega) _
  have hOf := OfTab_calls cs okT pa pn pc _ W1 hC2 fcz (by have := HLN.out; omega)
  have d0 := bX.cell 0
  have d1 := bX.cell 1
  have lX := bX.lt
  clear hS1 hC1' B1
  go_wp2_with fail
  refine hOf.mono ?_
  clear hW1
  rintro e w2 ⟨v3, rfl, hC3, hb2⟩
  have hC3' := hC3.mono (ok' := okT) (fun _ _ _ => trivial)
  have B3 : Below N w w2 := B2.trans (hb2.mono (by omega))
  have bX3 := bX.below hb2 bX.lt
  have hS3 := hS2.bel hb2
  have hC4 := hC2.bel hb2
  have l2 : X < w2.heap.size := bX3.lt
  obtain ⟨ra, rc, rfl, _⟩ := hC3.shape
  rw [hqn] at hC3' ⊢
  clear hOf hb2 hC3 bX hS2 hC2 B2 d0 d1
  obtain ⟨Y, hY⟩ : ∃ Y, w2.heap.size = Y := ⟨_, rfl⟩
  obtain ⟨W2, hW2⟩ : ∃ W2, w2.alloc (.cells #[.slice pa pn pc, .slice ra qn rc] 25) = W2 := ⟨_, rfl⟩
  have bY : Blk W2 Y 25 #[.slice pa pn pc, .slice ra qn rc] := by rw [← hW2]; exact Blk.new' w2 Y 25 _ hY
  have bX4 : Blk W2 X 28 #[.slice pa pn pc, .slice qa qn qc] := by rw [← hW2]; exact bX3.alloc _
  have hS5 : HoldsS W2 okT bs (.slice pa pn pc) := by rw [← hW2]; exact hS3.alloc _
  have hC5 : HoldsC W2 okT cs (.slice qa qn qc) := by rw [← hW2]; exact hC4.alloc _
  have hC6 : HoldsC W2 okT cs (.slice ra qn rc) := by rw [← hW2]; exact hC3'.alloc _
  have B4 : Below N w W2 := by rw [← hW2]; exact B3.alloc (by omega) _
  have hNew := New_calls bs cs okT _ _ W2 hS5 hC5 fs fc HLN.out
  have d0 := bX4.cell 0
  have d1 := bX4.cell 1
  have lY := bY.lt
  clear hS3 hC4 hC3' B3 bX3
  go_wp2_with fail
  refine hNew.mono ?_
  clear hW2
  rintro e w3 ⟨p, rfl, hp0, hp1, hb3⟩
  have B5 : Below N w w3 := B4.trans (hb3.mono (by omega))
  have bY5 := bY.below hb3 bY.lt
  have bX5 := bX4.below hb3 bX4.lt
  have hS7 := hS5.bel hb3
  have hC7 := hC5.bel hb3
  have hC8 := hC6.bel hb3
  clear hNew hb3 bY bX4 hS5 hC5 hC6 B4 d0 d1
  have hCk := Check_calls bs cs okT _ _ w3 hS7 hC7 fs fc HLN.out
  have d0 := bX5.cell 0
  have d1 := bX5.cell 1
  have l3 := bY5.lt
  go_wp2_with fail
  refine hCk.mono ?_
  rintro e w4 ⟨rfl, hb4⟩
  have B6 : Below N w w4 := B5.trans (hb4.mono (by omega))
  have bY6 := bY5.below hb4 bY5.lt
  have bX6 := bX5.below hb4 bX5.lt
  have hS8 := hS7.bel hb4
  have hC9 := hC7.bel hb4
  have hC10 := hC8.bel hb4
  have HI : Hid (chk bs cs = 0 → ∃ B, p = some ⟨B, 0, none⟩ ∧ Ix w4 B bs cs) := fun h => by
    obtain ⟨B, h1, _, h2⟩ := hp1 h
    exact ⟨B, h1, h2.bel hb4⟩
  have HI0 : Hid (chk bs cs ≠ 0 → p = none) := hp0
  clear hCk hb4 bY5 bX5 hS7 hC7 hC8 B5 d0 d1 hp0 hp1 l3
  have l4 := bY6.lt
  go_wp2_with fail
  refine (known_calls _).mono ?_
  rintro e w5 ⟨rfl, hb5⟩
  have B7 : Below N w w5 := B6.trans (hb5.mono (by omega))
  have bY7 := bY6.below hb5 bY6.lt
  have bX7 := bX6.below hb5 bX6.lt
  have hS9 := hS8.bel hb5
  have hC11 := hC9.bel hb5
  have hC12 := hC10.bel hb5
  have HI2 : Hid (chk bs cs = 0 → ∃ B, p = some ⟨B, 0, none⟩ ∧ Ix w5 B bs cs) := fun h => by
    obtain ⟨B, h1, h2⟩ := HI.out h
    exact ⟨B, h1, h2.bel hb5⟩
  clear hb5 bY6 bX6 hS8 hC9 hC10 B6 HI l4
  have hRC := ChkTab_calls bs cs okT _ _ w5 hS9 hC12 fs fc HLN.out
  have d0 := bY7.cell 0
  have d1 := bY7.cell 1
  have l5 := bY7.lt
  go_wp2_with fail
  refine hRC.mono ?_
  rintro e w6 ⟨rfl, hb6⟩
  have B8 : Below N w w6 := B7.trans (hb6.mono (by omega))
  have bY8 := bY7.below hb6 bY7.lt
  have bX8 := bX7.below hb6 bX7.lt
  have hS10 := hS9.bel hb6
  have hC13 := hC11.bel hb6
  have hC14 := hC12.bel hb6
  have HI3 : Hid (chk bs cs = 0 → ∃ B, p = some ⟨B, 0, none⟩ ∧ Ix w6 B bs cs) := fun h => by
    obtain ⟨B, h1, h2⟩ := HI2.out h
    exact ⟨B, h1, h2.bel hb6⟩
  clear hRC hb6 bY7 bX7 hS9 hC11 hC12 B7 HI2 d0 d1 l5
  have l6 := bY8.lt
  have l7 := bX8.lt
  obtain ⟨r, hr⟩ : ∃ r, chk bs cs = r := ⟨_, rfl⟩
  have HR : Hid _ := hr
  rw [hr] at HI3 HI0 ⊢
  clear hr
  have z1 : ((r : Int) != (r : Int)) = false := by simp
  by_cases h0 : r = 0
  · subst h0
    obtain ⟨B, rfl, hI⟩ := HI3.out rfl
    have hRT := rightT HR.out fs fc
    go_wp2_with fail
    rename_i K Q' hKs
    refine (wpIn_wide (n := 9)).1 ?_
    show Code.wpIn Fence.wide 9 Tryd.prog (Code.region 7 _ true) _ (actK7 X Y B (tab (Value.slice xa xn xc) (Value.slice ya yn yc)) (Value.pointer (some { block := N, off := 0 })) (Value.int IntKind.i64 0) (Value.agg #[Value.slice xa xn xc, Value.slice ya yn yc]) (tab (Value.slice pa pn pc) (Value.slice qa qn qc)) (Value.agg #[Value.slice pa pn pc, Value.slice qa qn qc]) (tab (Value.slice pa pn pc) (Value.slice ra qn rc)) (Value.tuple #[Value.pointer (some { block := B, off := 0 }), Value.int IntKind.i64 0]) (Value.agg #[Value.slice pa pn pc, Value.slice qa qn qc]) (Value.tuple #[Value.pointer (some { block := B, off := 0 }), Value.int IntKind.i64 0]) (Value.pointer (some { block := B, off := 0 })) (Value.int IntKind.i64 0) (Value.agg #[Value.slice pa pn pc, Value.slice qa qn qc]) (Value.int IntKind.i64 0) (Value.bool true) (Value.bool false) (Value.bool false) (Value.int IntKind.i64 0) (Value.agg #[Value.slice pa pn pc, Value.slice ra qn rc]) (Value.int IntKind.i64 0) (Value.bool false) (Value.bool false) (Value.bool false) (Value.int IntKind.i64 0) (Value.int IntKind.i64 0) (Value.bool false) (Value.bool false) (Value.bool false) (Value.pointer (some { block := B, off := 0 })) (Value.bool true) (Value.int IntKind.i64 0) (Value.bool true) (Value.bool false) (Value.bool false) (fun | 2 => Value.bool false | 39 => undef | 40 => undef | 41 => undef | 42 => undef | 43 => undef | 44 => undef | 45 => undef | 46 => undef | 47 => undef | 48 => undef | 49 => undef | 50 => undef | 51 => undef | 52 => undef | 53 => undef | _ => undef)) w6
    refine region_spine [(0, 0), (1, 0), (2, 0), (3, 0), (4, 0), (5, 0), (6, 0), (7, 0), (8, 0), (9, 0), (10, 0), (11, 0), (12, 0), (13, 0), (14, 0), (15, 0)] [] (fun s => Nat.beq s 2 || (Nat.ble 39 s && Nat.ble s 53)) (fun _ => VK7 B bs cs (tab (.slice pa pn pc) (.slice ra qn rc)) (tab (.slice pa pn pc) (.slice qa qn qc))) (fun _ w => Below (w6).heap.size w6 w) (by kernel_rfl) (by kernel_rfl) (by kernel_rfl) (by kernel_rfl) (fun _ _ _ _ _ h hb => h.mono hb) (fun _ _ _ h hb => h.trans (hb.mono h.size)) ((Below.refl _ _).drew) ⟨?_, ?_, ?_, ?_, ?_, ?_, ?_, ?_, ?_, ?_, ?_, ?_, ?_, ?_, ?_, ?_, trivial⟩ trivial ?_
    · intro o ho p hp _ z w hB hk K' hK
      cases ho
      have hK3 := hK (.int .i64 0) w (fun s hs => by cases hs; exact rfl) (Below.refl _ _)
      simp only [over_actK7] at hK3 ⊢
      clear hK hk
      unfold actK7 at *
      refine want_plain rfl ?_
      go_simp
      exact hK3
    · intro o ho p hp _ z w hB hk K' hK
      cases ho
      have e39 : z 39 = .int .i64 0 := hk 39 (by decide +kernel) rfl
      have hK3 := hK (.bool false) w (fun s hs => by cases hs; exact rfl) (Below.refl _ _)
      simp only [over_actK7] at hK3 ⊢
      clear hK hk
      unfold actK7 at *
      simp only [e39] at hK3 ⊢
      refine want_plain rfl ?_
      go_simp
      exact hK3
    · intro o ho p hp _ z w hB hk K' hK
      cases ho
      have e40 : z 40 = .bool false := hk 40 (by decide +kernel) rfl
      have hK3 := hK (.bool false) w (fun s hs => by cases hs; exact rfl) (Below.refl _ _)
      simp only [over_actK7] at hK3 ⊢
      clear hK hk
      unfold actK7 at *
      simp only [e40] at hK3 ⊢
      refine want_plain rfl ?_
      go_simp
      exact hK3
    · intro o ho p hp _ z w hB hk K' hK
      cases ho
      have e41 : z 41 = .bool false := hk 41 (by decide +kernel) rfl
      have hK3 := hK (.pointer (some ⟨B, 0, none⟩)) w (fun s hs => by cases hs; exact rfl) (Below.refl _ _)
      simp only [over_actK7] at hK3 ⊢
      clear hK hk
      unfold actK7 at *
      simp only [e41] at hK3 ⊢
      refine want_yes rfl (by rfl) ?_
      go_simp
      exact hK3
    · intro o ho p hp _ z w hB hk K' hK
      cases ho
      have e42 : z 42 = .pointer (some ⟨B, 0, none⟩) := hk 42 (by decide +kernel) rfl
      have e41 : z 41 = .bool false := hk 41 (by decide +kernel) rfl
      have hcall := Table_calls bs cs hRT B w (hI.bel hB)
      have hK3 := fun (w2 : World) (a1 : Option Addr) (n1 c1 : Nat) (a2 : Option Addr) (n2 c2 : Nat) (h1 : HoldsS w2 okT bs (.slice a1 n1 c1)) (h2 : HoldsC w2 okT cs (.slice a2 n2 c2)) (hb2 : Below w.heap.size w w2) => hK (tab (.slice a1 n1 c1) (.slice a2 n2 c2)) w2 (fun s hs => by cases hs; exact ⟨a1, n1, c1, a2, n2, c2, rfl, h1, h2⟩) hb2
      simp only [over_actK7] at hK3 ⊢
      clear hK hk
      unfold actK7 at *
      simp only [e42, e41] at hK3 ⊢
      refine want_yes rfl (by rfl) ?_
      go_simp
      refine ⟨trivial, (callsIn_wide.2 hcall).mono ?_⟩
      rintro e w2 ⟨v1, v2, rfl, h1, h2, hb2⟩
      obtain ⟨a1, c1, rfl, _⟩ := h1.shape
      obtain ⟨a2, c2, rfl, _⟩ := h2.shape
      exact hK3 w2 a1 _ c1 a2 _ c2 (h1.mono (fun _ _ _ => trivial)) (h2.mono (fun _ _ _ => trivial)) hb2
    · intro o ho p hp _ z w hB hk K' hK
      cases ho
      have e41 : z 41 = .bool false := hk 41 (by decide +kernel) rfl
      obtain ⟨a1, n1, c1, a2, n2, c2, e43, h1, h2⟩ := hk 43 (by decide +kernel) rfl
      have hcall := OfTab_calls cs okT a1 n1 c1 _ w h2 fcz (by have := HLN.out; omega)
      have hK3 := fun (w2 : World) (a3 : Option Addr) (n3 c3 : Nat) (h3 : HoldsC w2 okT cs (.slice a3 n3 c3)) (hb2 : Below w.heap.size w w2) => hK (tab (.slice a1 n1 c1) (.slice a3 n3 c3)) w2 (fun s hs => by cases hs; exact ⟨a1, n1, c1, a3, n3, c3, rfl, h1.bel hb2, h3⟩) hb2
      simp only [over_actK7] at hK3 ⊢
      clear hK hk
      unfold actK7 at *
      simp only [e41, e43] at hK3 ⊢
      refine want_yes rfl (by rfl) ?_
      go_simp
      refine ⟨trivial, (callsIn_wide.2 hcall).mono ?_⟩
      rintro e w2 ⟨v2, rfl, h3, hb2⟩
      obtain ⟨a3, c3, rfl, _⟩ := h3.shape
      exact hK3 w2 a3 _ c3 (h3.mono (fun _ _ _ => trivial)) hb2
    · intro o ho p hp _ z w hB hk K' hK
      cases ho
      have e41 : z 41 = .bool false := hk 41 (by decide +kernel) rfl
      have u0 := (cat hB bY8.lt).trans (bY8.cell 0)
      have u1 := (cat hB bY8.lt).trans (bY8.cell 1)
      have hK3 := hK (tab (.slice pa pn pc) (.slice ra qn rc)) w (fun s hs => by cases hs; exact rfl) (Below.refl _ _)
      simp only [over_actK7] at hK3 ⊢
      clear hK hk
      unfold actK7 at *
      simp only [e41] at hK3 ⊢
      refine want_yes rfl (by rfl) ?_
      go_simp
      exact hK3
    · intro o ho p hp _ z w hB hk K' hK
      cases ho
      have e45 : z 45 = tab (.slice pa pn pc) (.slice ra qn rc) := hk 45 (by decide +kernel) rfl
      have e41 : z 41 = .bool false := hk 41 (by decide +kernel) rfl
      obtain ⟨a1, n1, c1, a2, n2, c2, e44, h1, h2⟩ := hk 44 (by decide +kernel) rfl
      have hcall := SameTab_calls bs cs okT okT _ _ _ _ w h1 h2 (hS10.bel hB) (hC14.bel hB) fcz HLN.out
      have hK3 := fun (w2 : World) (hb2 : Below w.heap.size w w2) => hK (.bool true) w2 (fun s hs => by cases hs; exact rfl) hb2
      simp only [over_actK7] at hK3 ⊢
      clear hK hk
      unfold actK7 at *
      simp only [e45, e41, e44] at hK3 ⊢
      refine want_yes rfl (by rfl) ?_
      go_simp
      refine ⟨trivial, (callsIn_wide.2 hcall).mono ?_⟩
      rintro e w2 ⟨rfl, hb2⟩
      exact hK3 w2 hb2
    · intro o ho p hp _ z w hB hk K' hK
      cases ho
      have e46 : z 46 = .bool true := hk 46 (by decide +kernel) rfl
      have e41 : z 41 = .bool false := hk 41 (by decide +kernel) rfl
      have hK3 := hK (.bool true) w (fun s hs => by cases hs; exact rfl) (Below.refl _ _)
      simp only [over_actK7] at hK3 ⊢
      clear hK hk
      unfold actK7 at *
      simp only [e46, e41] at hK3 ⊢
      refine want_yes rfl (by rfl) ?_
      go_simp
      exact hK3
    · intro o ho p hp _ z w hB hk K' hK
      cases ho
      have e47 : z 47 = .bool true := hk 47 (by decide +kernel) rfl
      have u0 := (cat hB bX8.lt).trans (bX8.cell 0)
      have u1 := (cat hB bX8.lt).trans (bX8.cell 1)
      have hK3 := hK (tab (.slice pa pn pc) (.slice qa qn qc)) w (fun s hs => by cases hs; exact rfl) (Below.refl _ _)
      simp only [over_actK7] at hK3 ⊢
      clear hK hk
      unfold actK7 at *
      simp only [e47] at hK3 ⊢
      refine want_yes rfl (by rfl) ?_
      go_simp
      exact hK3
    · intro o ho p hp _ z w hB hk K' hK
      cases ho
      have e48 : z 48 = tab (.slice pa pn pc) (.slice qa qn qc) := hk 48 (by decide +kernel) rfl
      have e47 : z 47 = .bool true := hk 47 (by decide +kernel) rfl
      have hcall := OfTab_calls cs okT pa pn pc _ w (hC13.bel hB) fcz (by have := HLN.out; omega)
      have hK3 := fun (w2 : World) (a3 : Option Addr) (n3 c3 : Nat) (h3 : HoldsC w2 okT cs (.slice a3 n3 c3)) (hb2 : Below w.heap.size w w2) => hK (tab (.slice pa pn pc) (.slice a3 n3 c3)) w2 (fun s hs => by cases hs; exact ⟨pa, pn, pc, a3, n3, c3, rfl, (hS10.bel hB).bel hb2, h3⟩) hb2
      simp only [over_actK7] at hK3 ⊢
      clear hK hk
      unfold actK7 at *
      simp only [e48, e47] at hK3 ⊢
      refine want_yes rfl (by rfl) ?_
      go_simp
      refine ⟨trivial, (callsIn_wide.2 hcall).mono ?_⟩
      rintro e w2 ⟨v2, rfl, h3, hb2⟩
      obtain ⟨a3, c3, rfl, _⟩ := h3.shape
      exact hK3 w2 a3 _ c3 (h3.mono (fun _ _ _ => trivial)) hb2
    · intro o ho p hp _ z w hB hk K' hK
      cases ho
      have e47 : z 47 = .bool true := hk 47 (by decide +kernel) rfl
      have u0 := (cat hB bY8.lt).trans (bY8.cell 0)
      have u1 := (cat hB bY8.lt).trans (bY8.cell 1)
      have hK3 := hK (tab (.slice pa pn pc) (.slice ra qn rc)) w (fun s hs => by cases hs; exact rfl) (Below.refl _ _)
      simp only [over_actK7] at hK3 ⊢
      clear hK hk
      unfold actK7 at *
      simp only [e47] at hK3 ⊢
      refine want_yes rfl (by rfl) ?_
      go_simp
      exact hK3
    · intro o ho p hp _ z w hB hk K' hK
      cases ho
      have e50 : z 50 = tab (.slice pa pn pc) (.slice ra qn rc) := hk 50 (by decide +kernel) rfl
      have e47 : z 47 = .bool true := hk 47 (by decide +kernel) rfl
      obtain ⟨a1, n1, c1, a2, n2, c2, e49, h1, h2⟩ := hk 49 (by decide +kernel) rfl
      have hcall := SameTab_calls bs cs okT okT _ _ _ _ w h1 h2 (hS10.bel hB) (hC14.bel hB) fcz HLN.out
      have hK3 := fun (w2 : World) (hb2 : Below w.heap.size w w2) => hK (.bool true) w2 (fun s hs => by cases hs; exact rfl) hb2
      simp only [over_actK7] at hK3 ⊢
      clear hK hk
      unfold actK7 at *
      simp only [e50, e47, e49] at hK3 ⊢
      refine want_yes rfl (by rfl) ?_
      go_simp
      refine ⟨trivial, (callsIn_wide.2 hcall).mono ?_⟩
      rintro e w2 ⟨rfl, hb2⟩
      exact hK3 w2 hb2
    · intro o ho p hp _ z w hB hk K' hK
      cases ho
      have e47 : z 47 = .bool true := hk 47 (by decide +kernel) rfl
      have e51 : z 51 = .bool true := hk 51 (by decide +kernel) rfl
      have e41 : z 41 = .bool false := hk 41 (by decide +kernel) rfl
      have hK3 := hK (.bool true) w (fun s hs => by cases hs; exact rfl) (Below.refl _ _)
      simp only [over_actK7] at hK3 ⊢
      clear hK hk
      unfold actK7 at *
      simp only [e47, e51, e41] at hK3 ⊢
      refine want_yes rfl (by rfl) ?_
      go_simp
      exact hK3
    · intro o ho p hp _ z w hB hk K' hK
      cases ho
      have e41 : z 41 = .bool false := hk 41 (by decide +kernel) rfl
      have e52 : z 52 = .bool true := hk 52 (by decide +kernel) rfl
      have hK3 := hK (.bool true) w (fun s hs => by cases hs; exact rfl) (Below.refl _ _)
      simp only [over_actK7] at hK3 ⊢
      clear hK hk
      unfold actK7 at *
      simp only [e41, e52] at hK3 ⊢
      refine want_plain rfl ?_
      go_simp
      exact hK3
    · intro o ho p hp _ z w hB hk K' hK
      cases ho
      have e53 : z 53 = .bool true := hk 53 (by decide +kernel) rfl
      have hK3 := hK (.bool true) w (fun s hs => by cases hs; exact rfl) (Below.refl _ _)
      simp only [over_actK7] at hK3 ⊢
      clear hK hk
      unfold actK7 at *
      simp only [e53] at hK3 ⊢
      refine want_plain rfl ?_
      go_simp
      exact hK3
    · intro z w' hB hv
      have e2 : z 2 = .bool true := hv 2 (by decide +kernel)
      rw [over_actK7]
      refine hKs _ _ ?_
      unfold actK7
      simp only [e2]
      have B9 : Below N w w' := B8.trans (hB.mono (by omega))
      go_wp2
      go_ret
      exact ⟨rfl, B9⟩
  · obtain rfl := HI0.out h0
    have z2 : ((r : Int) == 0) = false := by simp; omega
    have z3 : ((r : Int) != 0) = true := by simp; omega
    have m0 := fun d os => cell_regrown (bY8.cell 0) d os
    have m1 := fun d os => cell_regrown (bY8.cell 1) d os
    have m2 := fun d os => cell_regrown (bX8.cell 0) d os
    have m3 := fun d os => cell_regrown (bX8.cell 1) d os
    go_wp2_with fail
    refine wp_region_quiet_below (by kernel_rfl) (by kernel_rfl) ?_
    repeat (go_big_quiet_step (fail))
    refine wpQuiet_nil ?_
    intro w7 hw'
    obtain ⟨q, hw''⟩ := hw'
    have hb7 : Below w6.heap.size w6 w7 := by rw [hw'']; exact below_regrown _ _ _
    clear hw'' q
    have B9 : Below N w w7 := B8.trans (hb7.mono (by omega))
    go_wp2
    go_ret
    exact ⟨rfl, B9⟩

end Go.Proofs.YtdihplmlbfggjaaDoor
