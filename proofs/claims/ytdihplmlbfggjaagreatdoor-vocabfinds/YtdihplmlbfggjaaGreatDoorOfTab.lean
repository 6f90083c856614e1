/-
  The contract of the law's Of: a table, told back.
-/
import Derived.Test.YtdihplmlbfggjaaGreatDoorMkR
import Derived.Test.YtdihplmlbfggjaaGreatDoorCopies
import Derived.Deep.AppendLies
namespace Go.Proofs.YtdihplmlbfggjaaGreatDoor
open Go Go.RowKit

theorem info66 : (Tryz.prog.info? 51).map (fun i => (i.zero, i.size, i.bytes)) = some (some (.agg #[.string ⟨#[]⟩, .slice none 0 0, .int .i64 0]), 3, 48) := by kernel_rfl
theorem MkR.drew {w : World} {M : Nat} {v : Value} {ps : List (Value × Cn)} (h : MkR w M v ps) : MkR w.drew M v ps := h.keep fun _ _ _ => rfl
theorem MkR.alloc {w : World} {M : Nat} {v : Value} {ps : List (Value × Cn)} (h : MkR w M v ps) (o : Obj) : MkR (w.alloc o) M v ps := h.bel ((Below.refl _ _).alloc (Nat.le_refl _) o)
theorem MkC.drew {w : World} {M : Nat} {v : Value} {ps : List (Value × Cn)} (h : MkC w M v ps) : MkC w.drew M v ps := h.keep fun _ _ _ => rfl
theorem MkC.alloc {w : World} {M : Nat} {v : Value} {ps : List (Value × Cn)} (h : MkC w M v ps) (o : Obj) : MkC (w.alloc o) M v ps := h.bel ((Below.refl _ _).alloc (Nat.le_refl _) o)
theorem cell_three_new (w : World) (x y z : Value) (t : TypeId) : ∀ j u, [x, y, z][j]? = some u → (w.alloc (.cells #[x, y, z] t)).cell? ((⟨w.heap.size, 0, none⟩ : Addr).add j) = some u := by
  intro j u h
  have hb := Blk.new w t #[x, y, z]
  have e : ((⟨w.heap.size, 0, none⟩ : Addr).add j) = ⟨w.heap.size, j, none⟩ := by simp [Addr.add]; omega
  rw [e, hb.cell j]
  simpa using h

def actO5 (N R k : Nat) (y0 y2 y5 y6 y7 y8 y9 y10 y11 y12 y13 y14 y34 : Value) (u : Nat → Value) : Act :=
  { tmps := #[y0, .pointer (some ⟨N, 0, none⟩), y2, .pointer (some ⟨R, 0, none⟩), .int .i64 k, y5, y6, y7, y8, y9, y10, y11, y12, y13, y14, u 15, u 16, u 17, u 18, u 19, u 20, u 21, u 22, u 23, u 24, u 25, u 26, u 27, u 28, u 29, u 30, u 31, u 32, u 33, y34], defers := [] }
theorem over_actO5 (N R k : Nat) (y0 y2 y5 y6 y7 y8 y9 y10 y11 y12 y13 y14 y34 : Value) (u0 u : Nat → Value) : over (fun s => Nat.ble 15 s && Nat.ble s 33) u (actO5 N R k y0 y2 y5 y6 y7 y8 y9 y10 y11 y12 y13 y14 y34 u0) = actO5 N R k y0 y2 y5 y6 y7 y8 y9 y10 y11 y12 y13 y14 y34 u := rfl
def VO5 (N R M L k g o nc cap : Nat) (vk sv : Value) (x : Cn) (cs : List Cn) (p s : Nat) (w : World) (v : Value) : Prop := match s with
  | 15 => v = .pointer (some ⟨R, 1, none⟩)
  | 16 => v = vk
  | 17 => v = .pointer (some ⟨N, 1, none⟩)
  | 18 => v = .slice (some ⟨g, o, none⟩) nc cap
  | 19 => v = .int .i64 k
  | 20 => v = .pointer (some ⟨g, o + k * 3, none⟩)
  | 21 => v = .pointer (some ⟨g, o + k * 3, none⟩)
  | 22 => v = .string x.name
  | 23 => v = .pointer (some ⟨N, 1, none⟩)
  | 24 => v = .slice (some ⟨g, o, none⟩) nc cap
  | 25 => v = .int .i64 k
  | 26 => v = .pointer (some ⟨g, o + k * 3, none⟩)
  | 27 => v = .pointer (some ⟨g, o + k * 3 + 1, none⟩)
  | 28 => v = tv sv x.ty.base
  | 29 => p = 0 → ∃ a n c, v = tv (.slice a n c) x.ty.base ∧ Holds w (fun b => L ≤ b) x.ty.args (.slice a n c)
  | 30 => p = 0 → ∃ a n c, v = .agg #[.string x.name, .slice a n c, .int .i64 x.ty.base] ∧ Holds w (fun b => L ≤ b) x.ty.args (.slice a n c)
  | 31 => p = 0 → ∃ g a n c, v = .slice (some ⟨g, 0, none⟩) 1 1 ∧ Blk w g 51 #[.string x.name, .slice a n c, .int .i64 x.ty.base] ∧ Holds w (fun b => L ≤ b) x.ty.args (.slice a n c)
  | 32 => 1 ≤ p ∧ (∃ g cap, v = .slice (some ⟨g, 0, none⟩) (k + 1) cap) ∧ ∃ ps, MkR w M (v) ps ∧ ps.length = k + 1 ∧ ps.map (·.2) = cs ++ [x]
  | 33 => v = .pointer (some ⟨R, 1, none⟩)
  | _ => True
theorem VO5.mono {N R M L k g o nc cap : Nat} {vk sv : Value} {x : Cn} {cs : List Cn} {p s : Nat} {w w' : World} {v : Value} (h : VO5 N R M L k g o nc cap vk sv x cs p s w v) (hb : Below w.heap.size w w') : VO5 N R M L k g o nc cap vk sv x cs p s w' v := by
  revert h
  unfold VO5
  split <;> intro h
  · exact h
  · exact h
  · exact h
  · exact h
  · exact h
  · exact h
  · exact h
  · exact h
  · exact h
  · exact h
  · exact h
  · exact h
  · exact h
  · exact h
  · exact fun e0 => by obtain ⟨a, n, c, e1, e2⟩ := h e0; exact ⟨a, n, c, e1, e2.bel hb⟩
  · exact fun e0 => by obtain ⟨a, n, c, e1, e2⟩ := h e0; exact ⟨a, n, c, e1, e2.bel hb⟩
  · exact fun e0 => by obtain ⟨g, a, n, c, e1, e2, e3⟩ := h e0; exact ⟨g, a, n, c, e1, e2.below hb e2.lt, e3.bel hb⟩
  · exact ⟨h.1, h.2.1, (by obtain ⟨ps, h8, h9⟩ := h.2.2; exact ⟨ps, h8.bel hb, h9⟩)⟩
  · exact h
  · trivial
def CO5 (W : World) (R M k : Nat) (va vk : Value) (x : Cn) (cs : List Cn) (p : Nat) (w : World) : Prop :=
  (p = 0 → Below W.heap.size W w) ∧ (p = 1 → W.grownBy w (vk).ownBlock) ∧ (p = 2 → ∃ v', Blk w R 25 #[va, v'] ∧ (∃ ps, MkR w M (v') ps ∧ ps.length = k + 1 ∧ ps.map (·.2) = cs ++ [x]) ∧ (∃ w1, W.grownBy w1 (vk).ownBlock ∧ Only [R] w1 w))
theorem CO5.mono {W : World} {R M k : Nat} {va vk : Value} {x : Cn} {cs : List Cn} {p : Nat} {w w' : World} (h : CO5 W R M k va vk x cs p w) (hb : Below w.heap.size w w') : CO5 W R M k va vk x cs p w' :=
  ⟨fun e => (h.1 e).trans (hb.mono (h.1 e).size), fun e => grownBy_bel (h.2.1 e) hb, fun e => by
    obtain ⟨v', h1, h2, w1, h3, h4⟩ := h.2.2 e
    exact ⟨v', h1.below hb h1.lt, (by obtain ⟨ps, h8, h9⟩ := h2; exact ⟨ps, h8.bel hb, h9⟩), w1, h3, h4.trans (Only.of_below' hb)⟩⟩

set_option maxRecDepth 100000 in
set_option maxHeartbeats 3200000 in
theorem OfTab_calls (cs : List Cn) (ok : Nat → Prop) (xa : Option Addr) (xn xc : Nat) (vb : Value) (w : World) (hC : HoldsC w ok cs vb) (fc : ∀ c ∈ cs, c.ty.size ≤ 900000) (hlen : cs.length ≤ 1000000) :
    Calls Tryz.prog 5 #[tab (.slice xa xn xc) vb] w fun e w' => ∃ v2, e = .returned (tab (.slice xa xn xc) v2) ∧ HoldsC w' (fun b => w.heap.size ≤ b) cs v2 ∧ Below w.heap.size w w' := by
  obtain ⟨i0, hi, hz0, hz1, hz2⟩ := info_parts info66
  obtain ⟨N, hN⟩ : ∃ N, w.heap.size = N := ⟨_, rfl⟩
  have hC' : HoldsC w (fun b => b < N) cs vb := hC.mono fun b hb _ => by omega
  obtain ⟨c, cap, rfl, hcap, hnil, hct⟩ := hC'
  have HA : Hid _ := hct
  have HN : Hid (w.heap.size = N) := hN
  obtain ⟨nc, hnc⟩ : ∃ nc, cs.length = nc := ⟨_, rfl⟩
  have HNC : Hid (cs.length = nc) := hnc
  rw [hnc] at hcap hlen ⊢
  clear hct hC hnil hnc
  rw [hN]
  go_enter Tryz.func5, Tryz.ntmps5
  go_wp2_with fail
  generalize hw0 : ((w.alloc (.cells #[.slice xa xn xc, .slice c nc cap] 28)).alloc (.cells #[.slice none 0 0, .slice none 0 0] 25)).alloc (.cells #[.slice xa xn xc, .slice none 0 0] 25) = w0
  have b0 : Blk w0 N 28 #[.slice xa xn xc, .slice c nc cap] := by rw [← hw0]; exact ((Blk.new' w N 28 _ hN).alloc _).alloc _
  have b1 : Blk w0 (N + 1) 25 #[.slice none 0 0, .slice none 0 0] := by rw [← hw0]; exact (Blk.new' _ (N + 1) 25 _ (by simp [hN])).alloc _
  have b2 : Blk w0 (N + 1 + 1) 25 #[.slice xa xn xc, .slice none 0 0] := by rw [← hw0]; exact Blk.new' _ (N + 1 + 1) 25 _ (by simp [hN])
  have bl0 : Below N w w0 := by rw [← hw0]; exact (((Below.refl N w).alloc (by omega) _).alloc (by simp; omega) _).alloc (by simp; omega) _
  clear hw0
  obtain ⟨R, hR⟩ : ∃ R, N + 1 + 1 = R := ⟨_, rfl⟩
  obtain ⟨M, hM⟩ : ∃ M, R + 1 = M := ⟨_, rfl⟩
  rw [hR] at b2 ⊢
  clear hN
  go_loopw [4] (fun i wr => ∃ (k : Nat) (vk : Value) (ps : List (Value × Cn)), k ≤ nc ∧ i = .int .i64 k ∧ ps.length = k ∧ Hid (ps.map (·.2) = cs.take k) ∧ Blk wr N 28 #[.slice xa xn xc, .slice c nc cap] ∧ Blk wr (N + 1) 25 #[.slice none 0 0, .slice none 0 0] ∧ Blk wr R 25 #[.slice xa xn xc, vk] ∧ MkR wr M vk ps ∧ Below N w wr)
    (fun i _ => nc - (intOf i).toNat)
  case atStart => exact ⟨0, _, [], Nat.zero_le _, rfl, rfl, rfl, b0, b1, b2, MkR.nil _ _, bl0⟩
  case round =>
    clear b0 b1 b2 bl0
    obtain ⟨k, vk, ps, hk, rfl, hpl, HP, hb0, hb1, hb2, hmk, hbl⟩ := hrel
    have r1 := hb0.cell 1
    have t0 := hb2.cell 1
    have hRw : R < wr.heap.size := hb2.lt
    have hNw : N < wr.heap.size := hb0.lt
    by_cases hlt : k < nc
    · have HKK : Hid (ps.length = k) := hpl
      clear hpl
      obtain ⟨x, hx⟩ : ∃ x, cs[k]? = some x := ⟨_, List.getElem?_eq_getElem (by rw [HNC.out]; exact hlt)⟩
      obtain ⟨g, o, s, rfl, hg, a0, a1, a2, hs⟩ := HA.out k x hx
      have q0 := (cat hbl hg).trans a0
      have q1 := (cat hbl hg).trans a1
      have q2 := (cat hbl hg).trans a2
      have hm := List.mem_of_getElem? hx
      have hxs := fc x hm
      have y1 : (0 : Int) ≤ (k : Int) := by omega
      have y2 : (k : Int) < (nc : Int) := by omega
      have z1 : decide ((k : Int) < (nc : Int)) = true := by simp; omega
      have HP2 : Hid (ps.map (·.2) ++ [x] = cs.take (k + 1)) := by show _ = _; rw [HP.out, List.take_add_one, hx]; rfl
      have hs2 : Holds wr (fun b => b < N) x.ty.args s := hs.bel (by rw [HN.out]; exact hbl)
      have hgw : g < wr.heap.size := by omega
      have hMw : M ≤ wr.heap.size := by omega
      have hnR : vk.ownBlock ≠ some R := fun e => by have := (hmk.lt R e).1; omega
      have hn0 : vk.ownBlock ≠ some N := fun e => by have := (hmk.lt N e).1; omega
      have hn1 : vk.ownBlock ≠ some (N + 1) := fun e => by have := (hmk.lt (N + 1) e).1; omega
      have HL : Hid (∀ b, vk.ownBlock = some b → b < wr.heap.size) := fun b hb => (hmk.lt b hb).2
      obtain ⟨s1, s2, rfl, _⟩ := hs.shape
      generalize x.ty.args.length = sl at *
      clear a0 a1 a2 hx hs
      go_wp2_with fail
      rename_i K Q' hKs
      refine (wpIn_wide (n := 9)).1 ?_
      show Code.wpIn Fence.wide 9 Tryz.prog (Code.region 5 _ true) _ (actO5 N R k (tab (Value.slice xa xn xc) (Value.slice (some { block := g, off := o }) nc cap)) (Value.pointer (some { block := N + 1, off := 0 })) (Value.pointer (some { block := N, off := 0 })) (Value.slice xa xn xc) (Value.agg #[Value.slice xa xn xc, Value.slice none 0 0]) (Value.int IntKind.i64 ↑k) (Value.pointer (some { block := N, off := 1 })) (Value.slice (some { block := g, off := o }) nc cap) (Value.int IntKind.i64 ↑nc) (Value.bool true) (u13) (u14) (undef) (fun | 15 => u15 | 16 => u16 | 17 => u17 | 18 => u18 | 19 => u19 | 20 => u20 | 21 => u21 | 22 => u22 | 23 => u23 | 24 => u24 | 25 => u25 | 26 => u26 | 27 => u27 | 28 => u28 | 29 => u29 | 30 => u30 | 31 => u31 | 32 => u32 | 33 => u33 | _ => undef)) wr
      refine region_spine [(0, 0), (1, 0), (2, 0), (3, 0), (4, 0), (5, 0), (6, 0), (7, 0), (8, 0), (9, 0), (10, 0), (11, 0), (12, 0), (13, 0), (14, 0), (15, 0), (16, 0), (18, 1)] [17, 19] (fun s => Nat.ble 15 s && Nat.ble s 33) (VO5 N R M wr.heap.size k g o nc cap vk (.slice s1 sl s2) x (cs.take k)) (CO5 wr R M k (.slice xa xn xc) vk x (cs.take k)) (by kernel_rfl) (by kernel_rfl) (by kernel_rfl) (by kernel_rfl) (fun _ _ _ _ _ h hb => h.mono hb) (fun _ _ _ h hb => h.mono hb) ⟨fun _ => (Below.refl _ _).drew, (fun e => by cases e), (fun e => by cases e)⟩ ⟨?_, ?_, ?_, ?_, ?_, ?_, ?_, ?_, ?_, ?_, ?_, ?_, ?_, ?_, ?_, ?_, ?_, ?_, trivial⟩ ⟨?_, ?_, trivial⟩ ?_
      · intro o ho p hp _ z w hC hk K' hK
        cases ho
        obtain rfl : p = 0 := by omega
        have hB := hC.1 rfl
        have hK3 := hK (.pointer (some ⟨R, 1, none⟩)) w (fun s hs => by cases hs; exact rfl) (Below.refl _ _)
        simp only [over_actO5] at hK3 ⊢
        clear hK hk
        unfold actO5 at *
        refine want_plain rfl ?_
        go_simp
        exact hK3
      · intro o ho p hp _ z w hC hk K' hK
        cases ho
        obtain rfl : p = 0 := by omega
        have hB := hC.1 rfl
        have e15 : z 15 = .pointer (some ⟨R, 1, none⟩) := hk 15 (by decide +kernel) rfl
        have g0 := (cat hB hb2.lt).trans (hb2.cell 1)
        have hK3 := hK (vk) w (fun s hs => by cases hs; exact rfl) (Below.refl _ _)
        simp only [over_actO5] at hK3 ⊢
        clear hK hk
        unfold actO5 at *
        simp only [e15] at hK3 ⊢
        refine want_plain rfl ?_
        go_simp
        exact hK3
      · intro o ho p hp _ z w hC hk K' hK
        cases ho
        obtain rfl : p = 0 := by omega
        have hB := hC.1 rfl
        have hK3 := hK (.pointer (some ⟨N, 1, none⟩)) w (fun s hs => by cases hs; exact rfl) (Below.refl _ _)
        simp only [over_actO5] at hK3 ⊢
        clear hK hk
        unfold actO5 at *
        refine want_plain rfl ?_
        go_simp
        exact hK3
      · intro o ho p hp _ z w hC hk K' hK
        cases ho
        obtain rfl : p = 0 := by omega
        have hB := hC.1 rfl
        have e17 : z 17 = .pointer (some ⟨N, 1, none⟩) := hk 17 (by decide +kernel) rfl
        have g0 := (cat hB hb0.lt).trans (hb0.cell 1)
        have hK3 := hK (.slice (some ⟨g, o, none⟩) nc cap) w (fun s hs => by cases hs; exact rfl) (Below.refl _ _)
        simp only [over_actO5] at hK3 ⊢
        clear hK hk
        unfold actO5 at *
        simp only [e17] at hK3 ⊢
        refine want_plain rfl ?_
        go_simp
        exact hK3
      · intro o ho p hp _ z w hC hk K' hK
        cases ho
        obtain rfl : p = 0 := by omega
        have hB := hC.1 rfl
        have hK3 := hK (.int .i64 k) w (fun s hs => by cases hs; exact rfl) (Below.refl _ _)
        simp only [over_actO5] at hK3 ⊢
        clear hK hk
        unfold actO5 at *
        refine want_plain rfl ?_
        go_simp
        exact hK3
      · intro o ho p hp _ z w hC hk K' hK
        cases ho
        obtain rfl : p = 0 := by omega
        have hB := hC.1 rfl
        have e18 : z 18 = .slice (some ⟨g, o, none⟩) nc cap := hk 18 (by decide +kernel) rfl
        have e19 : z 19 = .int .i64 k := hk 19 (by decide +kernel) rfl
        have hK3 := hK (.pointer (some ⟨g, o + k * 3, none⟩)) w (fun s hs => by cases hs; exact rfl) (Below.refl _ _)
        simp only [over_actO5] at hK3 ⊢
        clear hK hk
        unfold actO5 at *
        simp only [e18, e19] at hK3 ⊢
        refine want_plain rfl ?_
        go_simp
        exact hK3
      · intro o ho p hp _ z w hC hk K' hK
        cases ho
        obtain rfl : p = 0 := by omega
        have hB := hC.1 rfl
        have e20 : z 20 = .pointer (some ⟨g, o + k * 3, none⟩) := hk 20 (by decide +kernel) rfl
        have hK3 := hK (.pointer (some ⟨g, o + k * 3, none⟩)) w (fun s hs => by cases hs; exact rfl) (Below.refl _ _)
        simp only [over_actO5] at hK3 ⊢
        clear hK hk
        unfold actO5 at *
        simp only [e20] at hK3 ⊢
        refine want_plain rfl ?_
        go_simp
        exact hK3
      · intro o ho p hp _ z w hC hk K' hK
        cases ho
        obtain rfl : p = 0 := by omega
        have hB := hC.1 rfl
        have e21 : z 21 = .pointer (some ⟨g, o + k * 3, none⟩) := hk 21 (by decide +kernel) rfl
        have g0 := (cat hB hgw).trans q0
        have hK3 := hK (.string x.name) w (fun s hs => by cases hs; exact rfl) (Below.refl _ _)
        simp only [over_actO5] at hK3 ⊢
        clear hK hk
        unfold actO5 at *
        simp only [e21] at hK3 ⊢
        refine want_plain rfl ?_
        go_simp
        exact hK3
      · intro o ho p hp _ z w hC hk K' hK
        cases ho
        obtain rfl : p = 0 := by omega
        have hB := hC.1 rfl
        have hK3 := hK (.pointer (some ⟨N, 1, none⟩)) w (fun s hs => by cases hs; exact rfl) (Below.refl _ _)
        simp only [over_actO5] at hK3 ⊢
        clear hK hk
        unfold actO5 at *
        refine want_plain rfl ?_
        go_simp
        exact hK3
      · intro o ho p hp _ z w hC hk K' hK
        cases ho
        obtain rfl : p = 0 := by omega
        have hB := hC.1 rfl
        have e23 : z 23 = .pointer (some ⟨N, 1, none⟩) := hk 23 (by decide +kernel) rfl
        have g0 := (cat hB hb0.lt).trans (hb0.cell 1)
        have hK3 := hK (.slice (some ⟨g, o, none⟩) nc cap) w (fun s hs => by cases hs; exact rfl) (Below.refl _ _)
        simp only [over_actO5] at hK3 ⊢
        clear hK hk
        unfold actO5 at *
        simp only [e23] at hK3 ⊢
        refine want_plain rfl ?_
        go_simp
        exact hK3
      · intro o ho p hp _ z w hC hk K' hK
        cases ho
        obtain rfl : p = 0 := by omega
        have hB := hC.1 rfl
        have hK3 := hK (.int .i64 k) w (fun s hs => by cases hs; exact rfl) (Below.refl _ _)
        simp only [over_actO5] at hK3 ⊢
        clear hK hk
        unfold actO5 at *
        refine want_plain rfl ?_
        go_simp
        exact hK3
      · intro o ho p hp _ z w hC hk K' hK
        cases ho
        obtain rfl : p = 0 := by omega
        have hB := hC.1 rfl
        have e24 : z 24 = .slice (some ⟨g, o, none⟩) nc cap := hk 24 (by decide +kernel) rfl
        have e25 : z 25 = .int .i64 k := hk 25 (by decide +kernel) rfl
        have hK3 := hK (.pointer (some ⟨g, o + k * 3, none⟩)) w (fun s hs => by cases hs; exact rfl) (Below.refl _ _)
        simp only [over_actO5] at hK3 ⊢
        clear hK hk
        unfold actO5 at *
        simp only [e24, e25] at hK3 ⊢
        refine want_plain rfl ?_
        go_simp
        exact hK3
      · intro o ho p hp _ z w hC hk K' hK
        cases ho
        obtain rfl : p = 0 := by omega
        have hB := hC.1 rfl
        have e26 : z 26 = .pointer (some ⟨g, o + k * 3, none⟩) := hk 26 (by decide +kernel) rfl
        have hK3 := hK (.pointer (some ⟨g, o + k * 3 + 1, none⟩)) w (fun s hs => by cases hs; exact rfl) (Below.refl _ _)
        simp only [over_actO5] at hK3 ⊢
        clear hK hk
        unfold actO5 at *
        simp only [e26] at hK3 ⊢
        refine want_plain rfl ?_
        go_simp
        exact hK3
      · intro o ho p hp _ z w hC hk K' hK
        cases ho
        obtain rfl : p = 0 := by omega
        have hB := hC.1 rfl
        have e27 : z 27 = .pointer (some ⟨g, o + k * 3 + 1, none⟩) := hk 27 (by decide +kernel) rfl
        have g0 := (cat hB hgw).trans q1
        have g1 := (cat hB hgw).trans q2
        have hK3 := hK (tv (.slice s1 sl s2) x.ty.base) w (fun s hs => by cases hs; exact rfl) (Below.refl _ _)
        simp only [over_actO5] at hK3 ⊢
        clear hK hk
        unfold actO5 at *
        simp only [e27] at hK3 ⊢
        refine want_plain rfl ?_
        go_simp
        exact hK3
      · intro o ho p hp _ z w hC hk K' hK
        cases ho
        obtain rfl : p = 0 := by omega
        have hB := hC.1 rfl
        have e28 : z 28 = tv (.slice s1 sl s2) x.ty.base := hk 28 (by decide +kernel) rfl
        have hcall := Of_calls x.ty _ (.slice s1 sl s2) w (hs2.bel hB) (by omega)
        have hK3 := fun (w2 : World) (ya : Option Addr) (yn yc : Nat) (hv2 : Holds w2 (fun b => wr.heap.size ≤ b) x.ty.args (.slice ya yn yc)) (hb2 : Below w.heap.size w w2) => hK (tv (.slice ya yn yc) x.ty.base) w2 (fun s hs => by cases hs; exact fun _ => ⟨ya, yn, yc, rfl, hv2⟩) hb2
        simp only [over_actO5] at hK3 ⊢
        clear hK hk
        unfold actO5 at *
        simp only [e28] at hK3 ⊢
        refine want_plain rfl ?_
        go_simp
        refine ⟨trivial, (callsIn_wide.2 hcall).mono ?_⟩
        rintro e w2 ⟨v2, rfl, hv2, hb2⟩
        obtain ⟨ya, yc, rfl, _⟩ := hv2.shape
        exact hK3 w2 ya _ yc (hv2.mono fun b _ h => Nat.le_trans hB.size h) hb2
      · intro o ho p hp _ z w hC hk K' hK
        cases ho
        obtain rfl : p = 0 := by omega
        have hB := hC.1 rfl
        have e22 : z 22 = .string x.name := hk 22 (by decide +kernel) rfl
        obtain ⟨a, n, c, e29, h29⟩ := hk 29 (by decide +kernel) rfl rfl
        have hK3 := hK (.agg #[.string x.name, .slice a n c, .int .i64 x.ty.base]) w (fun s hs => by cases hs; exact fun _ => ⟨a, n, c, rfl, h29⟩) (Below.refl _ _)
        simp only [over_actO5] at hK3 ⊢
        clear hK hk
        unfold actO5 at *
        simp only [e22, e29] at hK3 ⊢
        refine want_plain rfl ?_
        go_simp
        exact hK3
      · intro o ho p hp _ z w hC hk K' hK
        cases ho
        obtain rfl : p = 0 := by omega
        have hB := hC.1 rfl
        obtain ⟨a, n, c, e30, h30⟩ := hk 30 (by decide +kernel) rfl rfl
        have hK3 := hK (.slice (some ⟨w.heap.size, 0, none⟩) 1 1) (w.alloc (.cells #[.string x.name, .slice a n c, .int .i64 x.ty.base] 51)) (fun s hs => by cases hs; exact fun _ => ⟨w.heap.size, a, n, c, rfl, Blk.new w 51 _, h30.alloc _⟩) ((Below.refl _ _).alloc (Nat.le_refl _) _)
        simp only [over_actO5] at hK3 ⊢
        clear hK hk
        unfold actO5 at *
        simp only [e30] at hK3 ⊢
        refine want_plain rfl ?_
        go_simp
        exact hK3
      · intro o ho p hp _ z w hC hk K' hK
        cases ho
        have hK3 := hK (.pointer (some ⟨R, 1, none⟩)) w (fun s hs => by cases hs; exact rfl) (Below.refl _ _)
        simp only [over_actO5] at hK3 ⊢
        clear hK hk
        unfold actO5 at *
        refine want_plain rfl ?_
        go_simp
        exact hK3
      · intro o ho z w hC hk K' hK
        cases ho
        have hB := hC.1 rfl
        have eS : z 16 = vk := hk 16 (by decide +kernel) rfl
        obtain ⟨g9, ya, yn, yc, eA, bA, h31⟩ := hk 31 (by decide +kernel) rfl rfl
        have hmw := hmk.bel hB
        have hrw := hmw.row
        rw [HKK.out] at hrw
        simp only [over_actO5] at hK ⊢
        refine want_plain rfl (append_in rfl (.tmp 16) (.tmp 31) 23 rfl M 51 i0 (.agg #[.string ⟨#[]⟩, .slice none 0 0, .int .i64 0]) 3 48 Tryz.underlying23 hi hz0 hz1 hz2 rfl (by decide) vk k (ccells ps) eS hrw ⟨g9, 0, none⟩ 1 1 [.string x.name, .slice ya yn yc, .int .i64 x.ty.base] eA rfl ?_ (by simp [Value.oneCell']) (by omega) (by unfold maxLen; omega) (by omega) (by have := hB.size; omega) ?_)
        · intro i u hi
          have e : ((⟨g9, 0, none⟩ : Addr).add i) = ⟨g9, i, none⟩ := by simp [Addr.add]; omega
          rw [e, bA.cell i]
          simpa using hi
        · intro g cap8 w' hown hgrow hat hlt
          have hq := (⟨ps ++ [(.slice ya yn yc, x)], hmw.snoc (cap := cap8) (L := wr.heap.size) HKK.out h31 hMw HL.out hgrow hat hown, by rw [List.length_append, HKK.out]; rfl, by rw [List.map_append, HP.out]; rfl⟩ : ∃ qs, MkR w' M (.slice (some ⟨g, 0, none⟩) (k + 1) cap8) qs ∧ qs.length = k + 1 ∧ qs.map (·.2) = cs.take k ++ [x])
          refine hK _ w' (fun i hs => by cases hs; exact ⟨by omega, ⟨g, cap8, rfl⟩, hq⟩) ⟨by omega, fun _ => ?_, by omega⟩ (fun s x h => ?_)
          · exact ⟨hgrow.os.trans hB.os, hgrow.tape.trans hB.tape, hgrow.output.trans hB.output, Nat.le_trans hB.size hgrow.size, fun i hi hn => (hgrow.block i (Nat.lt_of_lt_of_le hi hB.size) hn).trans (hB.block i hi)⟩
          · revert h
            unfold VO5
            split <;> intro h
            · exact h
            · exact h
            · exact h
            · exact h
            · exact h
            · exact h
            · exact h
            · exact h
            · exact h
            · exact h
            · exact h
            · exact h
            · exact h
            · exact h
            · exact fun e0 => absurd e0 (by omega)
            · exact fun e0 => absurd e0 (by omega)
            · exact fun e0 => absurd e0 (by omega)
            · exact absurd h.1 (by omega)
            · exact h
            · trivial
      · intro o ho z w hC hk K' hK
        cases ho
        have eP : z 33 = .pointer (some ⟨R, 1, none⟩) := hk 33 (by decide +kernel) rfl
        obtain ⟨_, ⟨g9, c9, eV⟩, hq⟩ := hk 32 (by decide +kernel) rfl
        have hG := hC.2.1 rfl
        have hbR : Blk w R 25 #[.slice xa xn xc, vk] := hb2.kept hG (fun e => hnR e.symm)
        have f0 := hbR.frozen 1
        have p0 := hbR.cell 1
        rw [eV] at hq
        have hK3 := hK undef (w.setCell ⟨R, 1, none⟩ (.slice (some ⟨g9, 0, none⟩) (k + 1) c9)) (fun i hs => by cases hs) ⟨by omega, by omega, fun _ => ⟨_, hbR.set 1 _, (by obtain ⟨ps, h8, h9⟩ := hq; exact ⟨ps, h8.set (by omega) 1 _, h9⟩), w, hG, (Only.refl _ _).set (by simp) 1 _⟩⟩ (fun s x h => by
          revert h
          unfold VO5
          split <;> intro h
          · exact h
          · exact h
          · exact h
          · exact h
          · exact h
          · exact h
          · exact h
          · exact h
          · exact h
          · exact h
          · exact h
          · exact h
          · exact h
          · exact h
          · exact fun e0 => absurd e0 (by omega)
          · exact fun e0 => absurd e0 (by omega)
          · exact fun e0 => absurd e0 (by omega)
          · exact ⟨by omega, h.2.1, (by obtain ⟨ps, h8, h9⟩ := h.2.2; exact ⟨ps, h8.set (by omega) 1 _, h9⟩)⟩
          · exact h
          · trivial)
        simp only [over_actO5] at hK3 ⊢
        clear hK hk
        unfold actO5 at *
        simp only [eP, eV] at hK3 ⊢
        refine want_plain rfl ?_
        go_simp
        exact hK3
      · intro z w' hC _
        obtain ⟨v', hbR', hq', w1, hG, hO⟩ := hC.2.2 rfl
        rw [over_actO5]
        refine hKs _ _ ?_
        unfold actO5
        have n0 := (hb0.kept hG (fun e => hn0 e.symm)).only hO (by simp; omega)
        have n1 := (hb1.kept hG (fun e => hn1 e.symm)).only hO (by simp; omega)
        have hbl' : Below N w w' := (hbl.grown hG (by omega) (fun i hi => by have := (hmk.lt i hi).1; omega)).trans (hO.below (by have := hG.size; omega) (fun i hi => by simp at hi; omega))
        obtain ⟨qs, hm', hl', hp'⟩ := hq'
        rw [← HP.out, HP2.out] at hp'
        go_wp2
        exact ⟨⟨k + 1, v', qs, by omega, by go_num, hl', hp', n0, n1, hbR', hm', hbl'⟩, by simp [intOf]; omega⟩
    · obtain rfl : k = nc := by omega
      have z1 : decide ((k : Int) < (k : Int)) = false := by simp
      have u0 := hb2.cell 0
      have s0 := hb1.cell 0
      have s1 := hb1.cell 1
      have f0 := hb1.frozen 0
      have f1 := hb1.frozen 1
      have hh4 := hmk.holds
      rw [HP.out, List.take_of_length_le (by rw [HNC.out]; exact Nat.le_refl _)] at hh4
      obtain ⟨va, vc, rfl, _⟩ := hh4.shape
      generalize cs.length = yn at *
      have c0 := (hb1.set 0 (.slice xa xn xc)).set 1 (.slice va yn vc)
      have hO : Only [N + 1] wr ((wr.setCell ⟨N + 1, 0, none⟩ (.slice xa xn xc)).setCell ⟨N + 1, 1, none⟩ (.slice va yn vc)) := ((Only.refl _ _).set (by simp) 0 _).set (by simp) 1 _
      have hk2 := (hh4.only hO (fun b hb => by simp; omega)).mono (ok' := fun b => N ≤ b) (fun b _ hb => by omega)
      have hB5 := hbl.trans (hO.below (n := N) (by omega) (fun i hi => by simp at hi; omega))
      clear hO hh4 hmk
      go_wp2
      generalize (wr.setCell ⟨N + 1, 0, none⟩ (.slice xa xn xc)).setCell ⟨N + 1, 1, none⟩ (.slice va yn vc) = W5 at *
      have d0 : W5.cell? ⟨N + 1, 0, none⟩ = some (.slice xa xn xc) := c0.cell 0
      have d1 : W5.cell? ⟨N + 1, 1, none⟩ = some (.slice va yn vc) := c0.cell 1
      exact bodyPost_ret (v := tab (.slice xa xn xc) (.slice va yn vc)) (by simp [results, Tryz.results5, go_sem, d0, d1]) rfl ⟨_, rfl, hk2, hB5⟩

end Go.Proofs.YtdihplmlbfggjaaGreatDoor
