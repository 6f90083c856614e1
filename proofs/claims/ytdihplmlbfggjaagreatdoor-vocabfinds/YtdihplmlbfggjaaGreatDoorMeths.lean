/-
  The contracts of (*Index).Base, look, Type, Name and Types.
-/
import Derived.Test.YtdihplmlbfggjaaGreatDoorKnowns
namespace Go.Proofs.YtdihplmlbfggjaaGreatDoor
open Go Go.RowKit Go.Maps

set_option maxRecDepth 100000 in
set_option maxHeartbeats 400000 in
theorem Base_calls (bs : List ByteArray) (cs : List Cn) (hT : RightT bs cs) (s : ByteArray) (hs : s.size ≤ 281474976710656) (B : Nat) (w : World) (hI : Ix w B bs cs) :
    Calls Tryz.prog 9 #[.pointer (some ⟨B, 0, none⟩), .string s] w fun e w' => ∃ c er : Int, e = .returned (.tuple #[.int .i64 c, .int .i64 er]) ∧ (∀ i : Nat, bs[i]? = some s → c = (i : Int) ∧ er = 0) ∧ (s ∉ bs → c = 0 ∧ er = 10) ∧ Ix w' B bs cs ∧ Only [B] w w' := by
  have hnot : ∀ (x : Bool) (w : World), (Op.unary .not (.bool x)).run Tryz.prog w = .ok (.bool (!x)) w := fun _ _ => rfl
  have hf := find_calls bs cs hT s hs B w hI
  have hln := hT.len
  clear hI
  by_cases hm : inB s (names bs cs) = true
  · obtain ⟨i, hi⟩ := List.getElem?_of_mem ((inB_iff _ _).1 hm)
    rw [hm] at hf
    obtain ⟨nb, hnb⟩ : ∃ nb, bs.length = nb := ⟨_, rfl⟩
    have hil := (List.getElem?_eq_some_iff.1 hi).1
    rw [names, List.length_append, List.length_map] at hil
    have HNB : Hid (bs.length = nb) := hnb
    rw [hnb] at hil hln
    by_cases hlt : i < nb
    · have HX : Hid (bs[i]? = some s) := by
        show _ = _
        rw [names, List.getElem?_append_left (by omega)] at hi
        exact hi
      have HU : Hid (∀ j : Nat, bs[j]? = some s → j = i) := fun j hj => by
        have hd := (List.nodup_append.1 hT.nodup).1
        exact (List.getElem?_inj (List.getElem?_eq_some_iff.1 hj).1 hd).1 (hj.trans HX.out.symm)
      have z1 : decide ((nb : Int) ≤ (i : Int)) = false := by simp; omega
      have z2 : decide (nb ≤ i) = false := by simp; omega
      clear hnb
      go_enter Tryz.func9, Tryz.ntmps9
      go_wp2_with (go_at_call 28; refine hf.mono ?_; rintro e w1 ⟨c, rfl, hc, hI, hO⟩; obtain rfl := hc i hi; have hI2 := hI; obtain ⟨va, vb, d, m, hB, hS, _⟩ := hI; obtain ⟨xa, xc, rfl, _⟩ := hS.shape; rw [HNB.out] at hB; have s0 := hB.cell 0; clear hc hB hS)
      refine bodyPost_ret (v := .tuple #[.int .i64 (i : Int), .int .i64 0]) (by simp [results, Tryz.results9, go_sem]) rfl ?_
      exact ⟨i, 0, rfl, fun j hj => ⟨by rw [HU.out j hj], rfl⟩, fun h => absurd (List.mem_of_getElem? HX.out) h, hI2, hO⟩
    · have HX : Hid (s ∉ bs) := fun hmem => by
        rw [names, List.getElem?_append_right (by omega)] at hi
        exact (List.nodup_append.1 hT.nodup).2.2 s hmem s (List.mem_of_getElem? hi) rfl
      have z1 : decide ((nb : Int) ≤ (i : Int)) = true := by simp; omega
      have z2 : decide (nb ≤ i) = true := by simp; omega
      clear hnb
      go_enter Tryz.func9, Tryz.ntmps9
      go_wp2_with (go_at_call 28; refine hf.mono ?_; rintro e w1 ⟨c, rfl, hc, hI, hO⟩; obtain rfl := hc i hi; have hI2 := hI; obtain ⟨va, vb, d, m, hB, hS, _⟩ := hI; obtain ⟨xa, xc, rfl, _⟩ := hS.shape; rw [HNB.out] at hB; have s0 := hB.cell 0; clear hc hB hS)
      refine bodyPost_ret (v := .tuple #[.int .i64 0, .int .i64 10]) (by simp [results, Tryz.results9, go_sem]) rfl ?_
      exact ⟨0, 10, rfl, fun j hj => absurd (List.mem_of_getElem? hj) HX.out, fun _ => ⟨rfl, rfl⟩, hI2, hO⟩
  · have hm' : inB s (names bs cs) = false := by simpa using hm
    have hX : s ∉ bs := fun h => inB_false hm' (by rw [names]; exact List.mem_append_left _ h)
    rw [hm'] at hf
    go_enter Tryz.func9, Tryz.ntmps9
    go_wp2_with (go_at_call 28; refine hf.mono ?_; rintro e w1 ⟨c, rfl, hc, hI, hO⟩)
    refine bodyPost_ret (v := .tuple #[.int .i64 0, .int .i64 10]) (by simp [results, Tryz.results9, go_sem]) rfl ?_
    exact ⟨0, 10, rfl, fun j hj => absurd (List.mem_of_getElem? hj) hX, fun _ => ⟨rfl, rfl⟩, hI, hO⟩

set_option maxRecDepth 100000 in
set_option maxHeartbeats 400000 in
theorem look_calls (bs : List ByteArray) (cs : List Cn) (B : Nat) (w : World) (hI : Ix w B bs cs) (n : Nat) (c : Cn) (hn : cs[n]? = some c) (_hl : cs.length ≤ 1000000) :
    Calls Tryz.prog 29 #[.pointer (some ⟨B, 0, none⟩), .int .i64 n] w fun e w' => ∃ a m k, e = .returned (.tuple #[.agg #[.string c.name, .slice a m k, .int .i64 c.ty.base], .int .i64 0]) ∧ Holds w' okT c.ty.args (.slice a m k) ∧ Below w.heap.size w w' := by
  obtain ⟨va, vb, d, m, hB, hS, hC, _⟩ := hI
  obtain ⟨N, hN⟩ : ∃ N, w.heap.size = N := ⟨_, rfl⟩
  obtain ⟨ca, cap, rfl, hcap, _, hct⟩ := hC
  obtain ⟨nc, hnc⟩ : ∃ nc, cs.length = nc := ⟨_, rfl⟩
  obtain ⟨g, o, s, rfl, _, q0, q1, q2, hs⟩ := hct n c hn
  have hlt := (List.getElem?_eq_some_iff.1 hn).1
  rw [hnc] at hB hlt hcap
  obtain ⟨sa, sc, rfl, _⟩ := hs.shape
  have hs' := hs.t
  have c1 := hB.cell 1
  have z1 : decide ((n : Int) < 0) = false := by simp
  have z2 : decide ((nc : Int) ≤ (n : Int)) = false := by simp; omega
  have z3 : decide (nc ≤ n) = false := by simp; omega
  have y1 : (0 : Int) ≤ (n : Int) := by omega
  have y2 : (n : Int) < (nc : Int) := by omega
  have hg := lt_of_cell q0
  have hlB := hB.lt
  have k0 : ∀ ob, (w.alloc ob).cell? ⟨g, o + n * 3, none⟩ = some (.string c.name) := fun ob => (World.cell?_of_block (w := w) (Below.heap_alloc w ob g hg)).trans q0
  have k1 : ∀ ob, (w.alloc ob).cell? ⟨g, o + n * 3 + 1, none⟩ = some (.slice sa c.ty.args.length sc) := fun ob => (World.cell?_of_block (w := w) (Below.heap_alloc w ob g hg)).trans q1
  have k2 : ∀ ob, (w.alloc ob).cell? ⟨g, o + n * 3 + 2, none⟩ = some (.int .i64 c.ty.base) := fun ob => (World.cell?_of_block (w := w) (Below.heap_alloc w ob g hg)).trans q2
  have k3 : ∀ ob, (w.alloc ob).cell? ⟨B, 1, none⟩ = some (.slice (some ⟨g, o, none⟩) nc cap) := fun ob => (World.cell?_of_block (w := w) (Below.heap_alloc w ob B hlB)).trans c1
  have bN := Blk.new' w N 60 #[.string c.name, .slice sa c.ty.args.length sc, .int .i64 c.ty.base] hN
  have BN : Below N w (w.alloc (.cells #[.string c.name, .slice sa c.ty.args.length sc, .int .i64 c.ty.base] 60)) := (Below.refl N w).alloc (by omega) _
  have hh := hs'.alloc (.cells #[.string c.name, .slice sa c.ty.args.length sc, .int .i64 c.ty.base] 60)
  rw [hN]
  clear hct hs hS hnc q0 q1 q2 c1
  go_enter Tryz.func29, Tryz.ntmps29
  go_wp2
  have d0 := bN.cell 0
  have d1 := bN.cell 1
  have d2 := bN.cell 2
  exact bodyPost_ret (v := .tuple #[.agg #[.string c.name, .slice sa c.ty.args.length sc, .int .i64 c.ty.base], .int .i64 0]) (by simp [results, Tryz.results29, go_sem, d0, d1, d2]) rfl ⟨_, _, _, rfl, hh, BN⟩

set_option maxRecDepth 100000 in
set_option maxHeartbeats 400000 in
theorem look_none (bs : List ByteArray) (cs : List Cn) (B : Nat) (w : World) (hI : Ix w B bs cs) (n : Int) (hn : n < 0 ∨ (cs.length : Int) ≤ n) :
    Calls Tryz.prog 29 #[.pointer (some ⟨B, 0, none⟩), .int .i64 n] w fun e w' => e = .returned (.tuple #[.agg #[.string ⟨#[]⟩, .slice none 0 0, .int .i64 0], .int .i64 10]) ∧ Below w.heap.size w w' := by
  obtain ⟨va, vb, d, m, hB, hS, hC, _⟩ := hI
  obtain ⟨N, hN⟩ : ∃ N, w.heap.size = N := ⟨_, rfl⟩
  obtain ⟨ca, cap, rfl, hcap, _, hct⟩ := hC
  obtain ⟨nc, hnc⟩ : ∃ nc, cs.length = nc := ⟨_, rfl⟩
  rw [hnc] at hB hn hcap
  have c1 := hB.cell 1
  have hlB := hB.lt
  have k3 : ∀ ob, (w.alloc ob).cell? ⟨B, 1, none⟩ = some (.slice ca nc cap) := fun ob => (World.cell?_of_block (w := w) (Below.heap_alloc w ob B hlB)).trans c1
  have bN := Blk.new' w N 60 #[.string ⟨#[]⟩, .slice none 0 0, .int .i64 0] hN
  have BN : Below N w (w.alloc (.cells #[.string ⟨#[]⟩, .slice none 0 0, .int .i64 0] 60)) := (Below.refl N w).alloc (by omega) _
  rw [hN]
  clear hct hS hnc c1
  by_cases h0 : n < 0
  · have z1 : decide (n < 0) = true := by simp; omega
    go_enter Tryz.func29, Tryz.ntmps29
    go_wp2
    have d0 := bN.cell 0
    have d1 := bN.cell 1
    have d2 := bN.cell 2
    exact bodyPost_ret (v := .tuple #[.agg #[.string ⟨#[]⟩, .slice none 0 0, .int .i64 0], .int .i64 10]) (by simp [results, Tryz.results29, go_sem, d0, d1, d2]) rfl ⟨rfl, BN⟩
  · have z1 : decide (n < 0) = false := by simp; omega
    have z2 : decide ((nc : Int) ≤ n) = true := by simp; omega
    go_enter Tryz.func29, Tryz.ntmps29
    go_wp2
    have d0 := bN.cell 0
    have d1 := bN.cell 1
    have d2 := bN.cell 2
    exact bodyPost_ret (v := .tuple #[.agg #[.string ⟨#[]⟩, .slice none 0 0, .int .i64 0], .int .i64 10]) (by simp [results, Tryz.results29, go_sem, d0, d1, d2]) rfl ⟨rfl, BN⟩

/-- What look tells of any number: a constant's name and type, or none. -/
structure Lk where
  name : ByteArray
  ty : Ty
  er : Int
def lkOf (cs : List Cn) (n : Int) : Lk := if h : 0 ≤ n ∧ n < (cs.length : Int) then ⟨(cs[n.toNat]'(by omega)).name, (cs[n.toNat]'(by omega)).ty, 0⟩ else ⟨⟨#[]⟩, tA, 10⟩
theorem lkOf_in {cs : List Cn} {n : Nat} {c : Cn} (h : cs[n]? = some c) : lkOf cs n = ⟨c.name, c.ty, 0⟩ := by
  obtain ⟨hl, he⟩ := List.getElem?_eq_some_iff.1 h
  unfold lkOf
  rw [dif_pos ⟨by omega, by omega⟩]
  simp only [Int.toNat_natCast, he]
theorem lkOf_out {cs : List Cn} {n : Int} (h : n < 0 ∨ (cs.length : Int) ≤ n) : lkOf cs n = ⟨⟨#[]⟩, tA, 10⟩ := by
  unfold lkOf
  rw [dif_neg (by omega)]
theorem look_any (bs : List ByteArray) (cs : List Cn) (B : Nat) (w : World) (hI : Ix w B bs cs) (n : Int) (hl : cs.length ≤ 1000000) :
    Calls Tryz.prog 29 #[.pointer (some ⟨B, 0, none⟩), .int .i64 n] w fun e w' => ∃ a m k, e = .returned (.tuple #[.agg #[.string (lkOf cs n).name, .slice a m k, .int .i64 (lkOf cs n).ty.base], .int .i64 (lkOf cs n).er]) ∧ Holds w' okT (lkOf cs n).ty.args (.slice a m k) ∧ Below w.heap.size w w' := by
  by_cases h : 0 ≤ n ∧ n < (cs.length : Int)
  · obtain ⟨k, rfl⟩ : ∃ k : Nat, n = k := ⟨n.toNat, by omega⟩
    obtain ⟨c, hc⟩ : ∃ c, cs[k]? = some c := ⟨_, List.getElem?_eq_getElem (by omega)⟩
    rw [lkOf_in hc]
    exact look_calls bs cs B w hI k c hc hl
  · rw [lkOf_out (by omega)]
    refine (look_none bs cs B w hI n (by omega)).mono ?_
    rintro e w' ⟨rfl, hb⟩
    exact ⟨none, 0, 0, rfl, Holds.nil _ _ _ _ (fun _ => rfl), hb⟩

set_option maxRecDepth 100000 in
set_option maxHeartbeats 400000 in
theorem Type_calls (bs : List ByteArray) (cs : List Cn) (hT : RightT bs cs) (B : Nat) (w : World) (hI : Ix w B bs cs) (n : Int) (hz : (lkOf cs n).ty.size ≤ 900000) :
    Calls Tryz.prog 13 #[.pointer (some ⟨B, 0, none⟩), .int .i64 n] w fun e w' => ∃ a m k, e = .returned (.tuple #[tv (.slice a m k) (lkOf cs n).ty.base, .int .i64 (lkOf cs n).er]) ∧ Holds w' okT (lkOf cs n).ty.args (.slice a m k) ∧ Below w.heap.size w w' := by
  obtain ⟨N, hN⟩ : ∃ N, w.heap.size = N := ⟨_, rfl⟩
  obtain ⟨W, hW⟩ : ∃ W, w.alloc (.cells #[.slice none 0 0, .int .i64 0] 42) = W := ⟨_, rfl⟩
  have b : Blk W N 42 #[.slice none 0 0, .int .i64 0] := by rw [← hW]; exact Blk.new' _ N 42 _ hN
  have hB : Below N w W := by rw [← hW]; exact (Below.refl _ _).alloc (by omega) _
  have hIW : Ix W B bs cs := by rw [← hW]; exact hI.bel ((Below.refl _ _).alloc (Nat.le_refl _) _)
  have hlk := look_any bs cs B W hIW n (by have := hT.len; omega)
  obtain ⟨x, hx⟩ : ∃ x, lkOf cs n = x := ⟨_, rfl⟩
  rw [hx] at hlk hz ⊢
  obtain ⟨nm, ty, er⟩ := x
  simp only at hlk hz ⊢
  have lb := b.lt
  rw [hN]
  clear hx hI hIW
  go_enter Tryz.func13, Tryz.ntmps13
  go_wp2_with fail
  refine hlk.mono ?_
  clear hW
  rintro e w1 ⟨a1, m1, k1, rfl, h1, hb1⟩
  have b1 := b.below hb1 b.lt
  have B1 : Below N w w1 := hB.trans (hb1.mono (by omega))
  have lN := b1.lt
  have b2 := b1.alloc (.cells #[.string nm, .slice a1 m1 k1, .int .i64 ty.base] 60)
  have B2 := B1.alloc (by omega) (.cells #[.string nm, .slice a1 m1 k1, .int .i64 ty.base] 60)
  have l2 := b2.lt
  have hcall := freshType_calls ty okT _ _ (h1.alloc (.cells #[.string nm, .slice a1 m1 k1, .int .i64 ty.base] 60)) (by omega)
  clear b hB hb1 hlk
  go_wp2_with fail
  refine hcall.mono ?_
  rintro e w3 ⟨v3, rfl, h3, hb3⟩
  obtain ⟨a3, c3, rfl, _⟩ := h3.shape
  have b3 := b2.below hb3 b2.lt
  have B3 : Below N w w3 := B2.trans (hb3.mono (by omega))
  have l3 := b3.lt
  have e0 := b3.cell 0
  have e1 := b3.cell 1
  have f0 := b3.frozen 0
  have f1 := b3.frozen 1
  generalize ty.args.length = tn at *
  have b4 := (b3.set 0 (.slice a3 tn c3)).set 1 (.int .i64 ty.base)
  have hO : Only [N] w3 ((w3.setCell ⟨N, 0, none⟩ (.slice a3 tn c3)).setCell ⟨N, 1, none⟩ (.int .i64 ty.base)) := ((Only.refl _ _).set (by simp) 0 _).set (by simp) 1 _
  have hh := (h3.only hO (fun b hb => by simp; omega)).t
  have B4 := B3.trans (hO.below (n := N) (by omega) (fun i hi => by simp at hi; omega))
  clear hb3 B3 hO h3 hcall
  go_wp2
  generalize (w3.setCell ⟨N, 0, none⟩ (.slice a3 tn c3)).setCell ⟨N, 1, none⟩ (.int .i64 ty.base) = W5 at *
  have d0 : W5.cell? ⟨N, 0, none⟩ = some (.slice a3 tn c3) := b4.cell 0
  have d1 : W5.cell? ⟨N, 1, none⟩ = some (.int .i64 ty.base) := b4.cell 1
  exact bodyPost_ret (v := .tuple #[tv (.slice a3 tn c3) ty.base, .int .i64 er]) (by simp [results, Tryz.results13, go_sem, d0, d1]) rfl ⟨_, _, _, rfl, hh, B4⟩

set_option maxRecDepth 100000 in
set_option maxHeartbeats 400000 in
theorem Name_calls (bs : List ByteArray) (cs : List Cn) (hT : RightT bs cs) (B : Nat) (w : World) (hI : Ix w B bs cs) (n : Int) (hz : (lkOf cs n).name.size ≤ 30) :
    Calls Tryz.prog 14 #[.pointer (some ⟨B, 0, none⟩), .int .i64 n] w fun e w' => e = .returned (.tuple #[.string (lkOf cs n).name, .int .i64 (lkOf cs n).er]) ∧ Below w.heap.size w w' := by
  obtain ⟨N, hN⟩ : ∃ N, w.heap.size = N := ⟨_, rfl⟩
  have hlk := look_any bs cs B w hI n (by have := hT.len; omega)
  obtain ⟨x, hx⟩ : ∃ x, lkOf cs n = x := ⟨_, rfl⟩
  rw [hx] at hlk hz ⊢
  obtain ⟨nm, ty, er⟩ := x
  simp only at hlk hz ⊢
  rw [hN] at hlk ⊢
  clear hx hI
  go_enter Tryz.func14, Tryz.ntmps14
  go_wp2_with fail
  refine hlk.mono ?_
  rintro e w1 ⟨a1, m1, k1, rfl, h1, hb1⟩
  have l1 := hb1.size
  have B2 := hb1.alloc (by omega) (.cells #[.string nm, .slice a1 m1 k1, .int .i64 ty.base] 60)
  have l2 := B2.size
  have hcall := Clone_calls nm (by omega)
  clear hlk
  go_wp2_with fail
  refine (hcall _).mono ?_
  rintro e w3 ⟨rfl, hb3⟩
  have B3 : Below N w w3 := B2.trans (hb3.mono (by omega))
  go_wp2
  exact bodyPost_ret (v := .tuple #[.string nm, .int .i64 er]) (by simp [results, Tryz.results14, go_sem]) rfl ⟨rfl, B3⟩

set_option maxRecDepth 100000 in
set_option maxHeartbeats 800000 in
theorem Types_calls (bs : List ByteArray) (cs : List Cn) (hT : RightT bs cs) (B : Nat) (w : World) (hI : Ix w B bs cs) :
    Calls Tryz.prog 17 #[.pointer (some ⟨B, 0, none⟩)] w fun e w' => ∃ v, e = .returned v ∧ Holds w' (fun b => w.heap.size ≤ b) (cs.map Cn.ty) v ∧ Below w.heap.size w w' := by
  obtain ⟨i0, hi, hz0, hz1, hz2⟩ := info_parts info29'
  obtain ⟨va, vb, d, m, hB, hS, hC, _⟩ := hI
  obtain ⟨N, hN⟩ : ∃ N, w.heap.size = N := ⟨_, rfl⟩
  have hC' : HoldsC w (fun b => b < N) cs vb := hC.mono fun b hb _ => by omega
  obtain ⟨ca, cap, rfl, hcap, _, hct⟩ := hC'
  have HC : Hid _ := hct
  have HN : Hid (w.heap.size = N) := hN
  obtain ⟨nc, hnc⟩ : ∃ nc, cs.length = nc := ⟨_, rfl⟩
  have HNC : Hid (cs.length = nc) := hnc
  have hlen := hT.len
  rw [hnc] at hB hcap hlen
  have hFC := hT.fc
  have c1 := hB.cell 1
  have hlB := hB.lt
  rw [hN] at hlB ⊢
  clear hct hS hC hnc
  go_enter Tryz.func17, Tryz.ntmps17
  go_wp2_with fail
  go_loopw [3, 14] (fun o i wr => ∃ (k : Nat) (ps : List (Value × Ty)), k ≤ nc ∧ i = .int .i64 k ∧ ps.length = k ∧ Hid (ps.map (·.2) = (cs.take k).map Cn.ty) ∧ Mk wr N 42 o ps ∧ Below N w wr) (fun _ i _ => nc - (intOf i).toNat)
  case atStart => exact ⟨0, [], Nat.zero_le _, rfl, rfl, rfl, Mk.nil _ _ _, Below.refl _ _⟩
  case round =>
    obtain ⟨k, ps, hk, rfl, hpl, HP, hmk, hbl⟩ := hrel
    have HKK : Hid (ps.length = k) := hpl
    clear hpl hN
    have hNw : N ≤ wr.heap.size := by have := hbl.size; have := HN.out; omega
    by_cases hlt : k < nc
    · obtain ⟨x, hx⟩ : ∃ x, cs[k]? = some x := ⟨_, List.getElem?_eq_getElem (by rw [HNC.out]; exact hlt)⟩
      obtain ⟨g, o, s, rfl, hg, a0, a1, a2, hs⟩ := HC.out k x hx
      have q0 := (cat hbl hg).trans a0
      have q1 := (cat hbl hg).trans a1
      have q2 := (cat hbl hg).trans a2
      have hxs := (hFC x (List.mem_of_getElem? hx)).2
      have y1 : (0 : Int) ≤ (k : Int) := by omega
      have y2 : (k : Int) < (nc : Int) := by omega
      have z1 : decide ((k : Int) < (nc : Int)) = true := by simp; omega
      have HP2 : Hid (ps.map (·.2) ++ [x.ty] = (cs.take (k + 1)).map Cn.ty) := by show _ = _; rw [HP.out, List.take_add_one, hx, List.map_append]; rfl
      have hs2 : Holds wr (fun b => b < N) x.ty.args s := hs.bel (by rw [HN.out]; exact hbl)
      obtain ⟨s1, s2, rfl, _⟩ := hs.shape
      obtain ⟨X, hX⟩ : ∃ X, wr.heap.size = X := ⟨_, rfl⟩
      obtain ⟨W, hW⟩ : ∃ W, wr.alloc (.cells #[.string x.name, .slice s1 x.ty.args.length s2, .int .i64 x.ty.base] 60) = W := ⟨_, rfl⟩
      have bX : Blk W X 60 #[.string x.name, .slice s1 x.ty.args.length s2, .int .i64 x.ty.base] := by rw [← hW]; exact Blk.new' _ X 60 _ hX
      have BW : Below wr.heap.size wr W := by rw [← hW]; exact (Below.refl _ _).alloc (Nat.le_refl _) _
      have hmkW := hmk.bel BW
      have hBW : Below N w W := hbl.trans (BW.mono hNw)
      have hsW := hs2.bel BW
      have HL : Hid (∀ b, u3.ownBlock = some b → b < W.heap.size) := fun b hb => Nat.lt_of_lt_of_le (hmk.lt b hb).2 BW.size
      have e1 := bX.cell 1
      have e2 := bX.cell 2
      have hNW : N ≤ W.heap.size := Nat.le_trans hNw BW.size
      have hcall := freshType_calls x.ty (fun b => b < N) _ W hsW (by omega)
      clear a0 a1 a2 hx hs HP
      generalize x.ty.args.length = sl at *
      go_wp2_with (first
        | (go_at_call 30; refine hcall.mono ?_; rintro e w2 ⟨v2, rfl, hv2, hbb⟩; obtain ⟨sa, sc, rfl, _⟩ := hv2.shape; generalize x.ty.args.length = sn at *; have hmk2 := hmkW.bel hbb; have hwz : W.heap.size ≤ w2.heap.size := hbb.size)
        | (at_builtin; refine wpList_append_lies _ rfl _ _ 40 rfl N 42 i0 _ 2 32 Tryz.underlying40 hi hz0 hz1 hz2 rfl (by decide) _ k (pcells ps) rfl (by have := hmk2.row.alloc (.cells #[.slice sa sn sc, .int .i64 x.ty.base] 42); rwa [HKK.out] at this) ⟨w2.heap.size, 0, none⟩ 1 1 [.slice sa sn sc, .int .i64 x.ty.base] rfl rfl (cell_two_new _ _ _ _) (by simp [Value.oneCell']) (by omega) (by unfold maxLen; omega) (by omega) (by simp; omega) _ rfl ?_; intro g2 cap2 w3 hown3 hgrow3 hat3 hlt3))
      have hB2 : Below N w w2 := hBW.trans (hbb.mono hNW)
      have hB3 : Below N w w3 := (hB2.alloc (by omega) _).grown hgrow3 (by simp; omega) (fun j hj => (hmk2.lt j hj).1)
      have hmk3 := hmk2.snoc (cap := cap2) hv2 hNW HL.out hgrow3 hat3 (by rw [HKK.out]; exact hown3)
      rw [HKK.out] at hmk3
      exact ⟨⟨k + 1, ps ++ [(.slice sa sn sc, x.ty)], by omega, by go_num, by rw [List.length_append, HKK.out]; rfl, by show _ = _; rw [List.map_append]; exact HP2.out, hmk3, hB3⟩, by simp [intOf]; omega⟩
    · obtain rfl : k = nc := by omega
      have z1 : decide ((k : Int) < (k : Int)) = false := by simp
      have hh4 := hmk.holds
      rw [HP.out, List.take_of_length_le (by rw [HNC.out]; exact Nat.le_refl _)] at hh4
      go_wp2
      go_ret
      exact ⟨_, rfl, hh4, hbl⟩

end Go.Proofs.YtdihplmlbfggjaaGreatDoor
