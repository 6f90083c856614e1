/-
  The contract of the law's To: a table of at most thirty bases and thirty constants of small types.
-/
import Derived.Test.YtdihplmlbfggjaaGreatDoorKnowns
namespace Go.Proofs.YtdihplmlbfggjaaGreatDoor
open Go Go.RowKit

def cutTy (t : Ty) : Ty := if fewB 100 70 t = true then t else tA
def cutC (c : Cn) : Cn := ⟨c.name, cutTy c.ty⟩
/-- The constants that the law looks at. -/
def cutT (cs : List Cn) : List Cn := (cs.take 30).map cutC
theorem cutTy_size (t : Ty) : (cutTy t).size ≤ 100 := by
  unfold cutTy
  split
  · rename_i h
    unfold fewB at h
    rw [decide_eq_true_iff] at h
    exact h.1
  · decide +kernel
theorem cutT_length (cs : List Cn) : (cutT cs).length ≤ 30 := by unfold cutT; rw [List.length_map, List.length_take]; omega
theorem cutT_fit {cs : List Cn} (fc : ∀ c ∈ cs, c.name.size ≤ 281474976710656) : FitC (cutT cs) := fun c hc => by
  obtain ⟨x, hx, rfl⟩ := List.mem_map.1 hc
  exact ⟨fc x (List.mem_of_mem_take hx), Nat.le_trans (cutTy_size x.ty) (by omega)⟩
theorem HoldsS.take {w : World} {ok : Nat → Prop} {ss : List ByteArray} {a : Option Addr} {n cap : Nat} (h : HoldsS w ok ss (.slice a n cap)) (k : Nat) : HoldsS w ok (ss.take k) (.slice a (ss.take k).length cap) := by
  obtain ⟨a', cap', e, h1, h2, h3⟩ := h
  cases e
  refine ⟨a, cap, rfl, by rw [List.length_take]; omega, h2, fun i s hs => h3 i s ?_⟩
  rw [List.getElem?_take] at hs
  split at hs
  · exact hs
  · cases hs

def actT8 (N R X k : Nat) (y0 y2 y6 y7 y8 y9 y10 y11 y12 y13 y14 y15 y16 y17 y18 y19 y20 y21 y22 y23 y24 y25 y26 y27 y28 y29 y30 y31 y32 y33 y34 y49 : Value) (u : Nat → Value) : Act :=
  { tmps := #[y0, .pointer (some ⟨N, 0, none⟩), y2, .pointer (some ⟨R, 0, none⟩), .int .i64 k, .pointer (some ⟨X, 0, none⟩), y6, y7, y8, y9, y10, y11, y12, y13, y14, y15, y16, y17, y18, y19, y20, y21, y22, y23, y24, y25, y26, y27, y28, y29, y30, y31, y32, y33, y34, u 35, u 36, u 37, u 38, u 39, u 40, u 41, u 42, u 43, u 44, u 45, u 46, u 47, u 48, y49], defers := [] }
theorem over_actT8 (N R X k : Nat) (y0 y2 y6 y7 y8 y9 y10 y11 y12 y13 y14 y15 y16 y17 y18 y19 y20 y21 y22 y23 y24 y25 y26 y27 y28 y29 y30 y31 y32 y33 y34 y49 : Value) (u0 u : Nat → Value) : over (fun s => Nat.ble 35 s && Nat.ble s 48) u (actT8 N R X k y0 y2 y6 y7 y8 y9 y10 y11 y12 y13 y14 y15 y16 y17 y18 y19 y20 y21 y22 y23 y24 y25 y26 y27 y28 y29 y30 y31 y32 y33 y34 y49 u0) = actT8 N R X k y0 y2 y6 y7 y8 y9 y10 y11 y12 y13 y14 y15 y16 y17 y18 y19 y20 y21 y22 y23 y24 y25 y26 y27 y28 y29 y30 y31 y32 y33 y34 y49 u := rfl
def VT8 (N R M X k g o nc cac : Nat) (vk sv : Value) (nm : ByteArray) (ty : Ty) (cs : List Cn) (p s : Nat) (w : World) (v : Value) : Prop := match s with
  | 35 => v = .pointer (some ⟨R, 1, none⟩)
  | 36 => v = vk
  | 37 => v = .pointer (some ⟨N, 1, none⟩)
  | 38 => v = .slice (some ⟨g, o, none⟩) nc cac
  | 39 => v = .int .i64 k
  | 40 => v = .pointer (some ⟨g, o + k * 3, none⟩)
  | 41 => v = .pointer (some ⟨g, o + k * 3, none⟩)
  | 42 => v = .string nm
  | 43 => v = tv sv ty.base
  | 44 => p = 0 → ∃ a n c, v = tv (.slice a n c) ty.base ∧ Holds w (fun b => X ≤ b) ty.args (.slice a n c)
  | 45 => p = 0 → ∃ a n c, v = .agg #[.string nm, .slice a n c, .int .i64 ty.base] ∧ Holds w (fun b => X ≤ b) ty.args (.slice a n c)
  | 46 => p = 0 → ∃ g a n c, v = .slice (some ⟨g, 0, none⟩) 1 1 ∧ Blk w g 60 #[.string nm, .slice a n c, .int .i64 ty.base] ∧ Holds w (fun b => X ≤ b) ty.args (.slice a n c)
  | 47 => 1 ≤ p ∧ (∃ g cap, v = .slice (some ⟨g, 0, none⟩) (k + 1) cap) ∧ ∃ ps, MkC w M (v) ps ∧ ps.length = k + 1 ∧ ps.map (·.2) = cs ++ [⟨nm, ty⟩]
  | 48 => v = .pointer (some ⟨R, 1, none⟩)
  | _ => True
theorem VT8.mono {N R M X k g o nc cac : Nat} {vk sv : Value} {nm : ByteArray} {ty : Ty} {cs : List Cn} {p s : Nat} {w w' : World} {v : Value} (h : VT8 N R M X k g o nc cac vk sv nm ty cs p s w v) (hb : Below w.heap.size w w') : VT8 N R M X k g o nc cac vk sv nm ty cs p s w' v := by
  revert h
  unfold VT8
  split <;> intro h
  · exact h
  · exact h
  · exact h
  · exact h
  · exact h
  · exact h
  · exact h
  · exact h
  · exact h
  · exact fun e0 => by obtain ⟨a, n, c, e1, e2⟩ := h e0; exact ⟨a, n, c, e1, e2.bel hb⟩
  · exact fun e0 => by obtain ⟨a, n, c, e1, e2⟩ := h e0; exact ⟨a, n, c, e1, e2.bel hb⟩
  · exact fun e0 => by obtain ⟨g, a, n, c, e1, e2, e3⟩ := h e0; exact ⟨g, a, n, c, e1, e2.below hb e2.lt, e3.bel hb⟩
  · exact ⟨h.1, h.2.1, (by obtain ⟨ps, h8, h9⟩ := h.2.2; exact ⟨ps, h8.bel hb, h9⟩)⟩
  · exact h
  · trivial
def CT8 (W : World) (R M k : Nat) (va vk : Value) (nm : ByteArray) (ty : Ty) (cs : List Cn) (p : Nat) (w : World) : Prop :=
  (p = 0 → Below W.heap.size W w) ∧ (p = 1 → W.grownBy w (vk).ownBlock) ∧ (p = 2 → ∃ v', Blk w R 28 #[va, v'] ∧ (∃ ps, MkC w M (v') ps ∧ ps.length = k + 1 ∧ ps.map (·.2) = cs ++ [⟨nm, ty⟩]) ∧ (∃ w1, W.grownBy w1 (vk).ownBlock ∧ Only [R] w1 w))
theorem CT8.mono {W : World} {R M k : Nat} {va vk : Value} {nm : ByteArray} {ty : Ty} {cs : List Cn} {p : Nat} {w w' : World} (h : CT8 W R M k va vk nm ty cs p w) (hb : Below w.heap.size w w') : CT8 W R M k va vk nm ty cs p w' :=
  ⟨fun e => (h.1 e).trans (hb.mono (h.1 e).size), fun e => grownBy_bel (h.2.1 e) hb, fun e => by
    obtain ⟨v', h1, h2, w1, h3, h4⟩ := h.2.2 e
    exact ⟨v', h1.below hb h1.lt, (by obtain ⟨ps, h8, h9⟩ := h2; exact ⟨ps, h8.bel hb, h9⟩), w1, h3, h4.trans (Only.of_below' hb)⟩⟩
set_option maxRecDepth 100000 in
set_option maxHeartbeats 3200000 in
theorem ToTab_calls (bs : List ByteArray) (cs : List Cn) (ok : Nat → Prop) (va vb : Value) (w : World) (hS : HoldsS w ok bs va) (hC : HoldsC w ok cs vb) :
    Calls Tryz.prog 4 #[tab va vb] w fun e w' => ∃ v1 v2, e = .returned (tab v1 v2) ∧ HoldsS w' ok (bs.take 30) v1 ∧ HoldsC w' (fun b => w.heap.size ≤ b) (cutT cs) v2 ∧ Below w.heap.size w w' := by
  obtain ⟨i47, hi47, hz470, hz471, hz472⟩ := info_parts info47
  obtain ⟨N, hN⟩ : ∃ N, w.heap.size = N := ⟨_, rfl⟩
  have hC' : HoldsC w (fun b => b < N) cs vb := hC.mono fun b hb _ => by omega
  have hS1 := hS
  obtain ⟨a, cap, rfl, hcap, hnil, hat⟩ := hS1
  have HS : Hid (HoldsS w ok (bs.take 30) (.slice a (bs.take 30).length cap)) := hS.take 30
  obtain ⟨c, cac, rfl, hcac, hnil', hct⟩ := hC'
  rw [hN]
  have HC : Hid _ := hct
  have HN : Hid (w.heap.size = N) := hN
  obtain ⟨nb, hnb⟩ : ∃ nb, bs.length = nb := ⟨_, rfl⟩
  obtain ⟨nc, hnc⟩ : ∃ nc, cs.length = nc := ⟨_, rfl⟩
  have HNC : Hid (cs.length = nc) := hnc
  obtain ⟨m, hm⟩ : ∃ m, (bs.take 30).length = m := ⟨_, rfl⟩
  have hmm : m = min 30 nb := by rw [← hm, List.length_take, hnb]
  have HMM : Hid (m = min 30 nb) := hmm
  rw [hm] at HS
  rw [hnb] at hcap ⊢
  rw [hnc] at hcac ⊢
  have hmin : (if (nb : Int) ≤ 30 then (nb : Int) else 30) = (m : Int) := by split <;> omega
  have hmin2 : min (nb : Int) 30 = (m : Int) := by omega
  have hm0 : (0 : Int) ≤ (m : Int) := by omega
  have hmc : (m : Int) ≤ (cap : Int) := by omega
  have hmc' : m ≤ cap := by omega
  clear hmm hat hct hS hC hnb hnc hnil hnil' hm
  go_enter Tryz.func4, Tryz.ntmps4
  go_wp2_with fail
  generalize hw0 : ((w.alloc (.cells #[.slice a nb cap, .slice c nc cac] 25)).alloc (.cells #[.slice none 0 0, .slice none 0 0] 28)).alloc (.cells #[.slice a m cap, .slice none 0 0] 28) = w0
  have b0 : Blk w0 N 25 #[.slice a nb cap, .slice c nc cac] := by rw [← hw0]; exact ((Blk.new' w N 25 _ hN).alloc _).alloc _
  have b1 : Blk w0 (N + 1) 28 #[.slice none 0 0, .slice none 0 0] := by rw [← hw0]; exact (Blk.new' _ (N + 1) 28 _ (by simp [hN])).alloc _
  have b2 : Blk w0 (N + 1 + 1) 28 #[.slice a m cap, .slice none 0 0] := by rw [← hw0]; exact Blk.new' _ (N + 1 + 1) 28 _ (by simp [hN])
  have bl0 : Below N w w0 := by rw [← hw0]; exact (((Below.refl N w).alloc (by omega) _).alloc (by simp; omega) _).alloc (by simp; omega) _
  clear hw0
  obtain ⟨R, hR⟩ : ∃ R, N + 1 + 1 = R := ⟨_, rfl⟩
  obtain ⟨M, hM⟩ : ∃ M, R + 1 = M := ⟨_, rfl⟩
  rw [hR] at b2 ⊢
  clear hN
  obtain ⟨n, hn⟩ : ∃ n, (cs.take 30).length = n := ⟨_, rfl⟩
  have hnn : n = min 30 nc := by rw [← hn, List.length_take, HNC.out]
  have HNN : Hid ((cs.take 30).length = n) := hn
  clear hn
  go_loopw [4] (fun i wr => ∃ (k : Nat) (vk : Value) (ps : List (Value × Cn)), k ≤ n ∧ i = .int .i64 k ∧ ps.length = k ∧ Hid (ps.map (·.2) = (cutT cs).take k) ∧ Blk wr N 25 #[.slice a nb cap, .slice c nc cac] ∧ Blk wr (N + 1) 28 #[.slice none 0 0, .slice none 0 0] ∧ Blk wr R 28 #[.slice a m cap, vk] ∧ MkC wr M vk ps ∧ Below N w wr)
    (fun i _ => n - (intOf i).toNat)
  case atStart => exact ⟨0, _, [], Nat.zero_le _, rfl, rfl, rfl, b0, b1, b2, MkC.nil _ _, bl0⟩
  case round =>
    clear b0 b1 b2 bl0
    obtain ⟨k, vk, ps, hk, rfl, hpl, HP, hb0, hb1, hb2, hmk, hbl⟩ := hrel
    have r1 := hb0.cell 1
    have hRw : R < wr.heap.size := hb2.lt
    have hNw : N < wr.heap.size := hb0.lt
    by_cases hlt : k < n
    · have HKK : Hid (ps.length = k) := hpl
      clear hpl
      obtain ⟨x, hx⟩ : ∃ x, cs[k]? = some x := ⟨_, List.getElem?_eq_getElem (by rw [HNC.out]; omega)⟩
      obtain ⟨g, o, s, rfl, hg, a0, a1, a2, hs⟩ := HC.out k x hx
      have q0 := (cat hbl hg).trans a0
      have q1 := (cat hbl hg).trans a1
      have q2 := (cat hbl hg).trans a2
      have y1 : (0 : Int) ≤ (k : Int) := by omega
      have y2 : (k : Int) < (nc : Int) := by omega
      have z1 : decide ((k : Int) < (nc : Int)) = true := by simp; omega
      have z2 : decide ((k : Int) < 30) = true := by simp; omega
      have hcx : (cutT cs)[k]? = some (cutC x) := by
        unfold cutT
        rw [List.getElem?_map, List.getElem?_take_of_lt (by omega), hx]; rfl
      have HP2 : Hid (ps.map (·.2) ++ [cutC x] = (cutT cs).take (k + 1)) := by show _ = _; rw [HP.out, List.take_add_one, hcx]; rfl
      have hs2 : Holds wr (fun b => b < N) x.ty.args s := hs.bel (by rw [HN.out]; exact hbl)
      have hgw : g < wr.heap.size := by omega
      have hMw : M ≤ wr.heap.size := by omega
      have hnR : vk.ownBlock ≠ some R := fun e => by have := (hmk.lt R e).1; omega
      have hn0 : vk.ownBlock ≠ some N := fun e => by have := (hmk.lt N e).1; omega
      have hn1 : vk.ownBlock ≠ some (N + 1) := fun e => by have := (hmk.lt (N + 1) e).1; omega
      obtain ⟨X, hX⟩ : ∃ X, wr.heap.size = X := ⟨_, rfl⟩
      obtain ⟨sa, sc, rfl, _⟩ := hs.shape
      obtain ⟨W0, hW0⟩ : ∃ W0, wr.alloc (.cells #[.slice sa x.ty.args.length sc, .int .i64 x.ty.base] 49) = W0 := ⟨_, rfl⟩
      have bX0 : Blk W0 X 49 #[.slice sa x.ty.args.length sc, .int .i64 x.ty.base] := by rw [← hW0]; exact Blk.new' _ X 49 _ hX
      have BW0 : Below wr.heap.size wr W0 := by rw [← hW0]; exact (Below.refl _ _).alloc (Nat.le_refl _) _
      have hF := Few_calls 100 (by omega) 70 (by omega) x.ty (fun b => b < N) _ W0 (hs2.bel BW0)
      have cX0 := bX0.cell 0
      have cX1 := bX0.cell 1
      have HCU : Hid (cutTy x.ty = if fewB 100 70 x.ty = true then x.ty else tA) := rfl
      have lX := bX0.lt
      generalize fewB 100 70 x.ty = fb at *
      clear a0 a1 a2 hx hs hcx
      go_wp2_with fail
      refine hF.mono ?_
      rintro e w2 ⟨rfl, hbb⟩
      have B2 : Below wr.heap.size wr w2 := BW0.trans (hbb.mono BW0.size)
      have bX := bX0.below hbb bX0.lt
      clear hF hbb bX0 cX0 cX1 BW0 hW0
      have e0 := hb0.below B2 hb0.lt
      have e1 := hb1.below B2 hb1.lt
      have e2 := hb2.below B2 hb2.lt
      have hmk2 := hmk.bel B2
      have hblw := hbl.trans (B2.mono (by have := hbl.size; have := HN.out; omega))
      have hsx := hs2.bel B2
      have p0 := (cat B2 hgw).trans q0
      have hvX : ∀ b, vk.ownBlock = some b → b < X := fun b hb => by have := (hmk.lt b hb).2; omega
      have hMX : M ≤ X := by omega
      have hRX : R < X := by omega
      have hNX : N < X := by omega
      have hgX : g < X := by omega
      have HMK : Hid (MkC wr M vk ps) := hmk
      have HB2 : Hid (Below X wr w2) := by show Below _ _ _; rw [← hX]; exact B2
      have HXX : Hid (wr.heap.size = X) := hX
      clear hb0 hb1 hb2 hmk hbl hs2 q0 q1 q2 r1 hRw hNw hgw hMw B2 hX
      cases fb with
      | true =>
        have HCT : Hid (cutTy x.ty = x.ty) := HCU.out
        have hz : x.ty.size ≤ 100 := by have := cutTy_size x.ty; rwa [HCT.out] at this
        obtain ⟨ty, hty⟩ : ∃ ty, x.ty = ty := ⟨_, rfl⟩
        have HCC : Hid (cutC x = ⟨x.name, ty⟩) := by show _ = _; rw [cutC, HCT.out, hty]
        rw [hty] at bX hsx hz ⊢
        obtain ⟨sv, hsv⟩ : ∃ sv, Value.slice sa ty.args.length sc = sv := ⟨_, rfl⟩
        generalize ty.args.length = sn at *
        clear HCU HCT hsv
        obtain ⟨W, hWW⟩ : ∃ W, W = w2 := ⟨_, rfl⟩
        subst hWW
        have bR := e2
        have bN := e0
        have bN1 := e1
        have blW := hblw
        have hsW := hsx
        have hXW : X ≤ W.heap.size := by have := bX.lt; omega
        have hgW : g < W.heap.size := by omega
        go_wp2_with fail
        rename_i K Q' hKs
        refine (wpIn_wide (n := 9)).1 ?_
        show Code.wpIn Fence.wide 9 Tryz.prog (Code.region 8 _ true) _ (actT8 N R X k (tab (Value.slice a nb cap) (Value.slice (some { block := g, off := o }) nc cac)) (Value.pointer (some { block := N + 1, off := 0 })) (Value.pointer (some { block := N, off := 0 })) (Value.slice a nb cap) (Value.pointer (some { block := N, off := 0 })) (Value.slice a nb cap) (Value.int IntKind.i64 ↑nb) (Value.int IntKind.i64 ↑m) (Value.slice a m cap) (Value.agg #[Value.slice a m cap, Value.slice none 0 0]) (Value.int IntKind.i64 ↑k) (Value.pointer (some { block := N, off := 1 })) (Value.slice (some { block := g, off := o }) nc cac) (Value.int IntKind.i64 ↑nc) (Value.bool true) (Value.bool true) (Value.int IntKind.i64 ↑k) (Value.bool true) (Value.bool true) (u23) (u24) (Value.pointer (some { block := N, off := 1 })) (Value.slice (some { block := g, off := o }) nc cac) (Value.int IntKind.i64 ↑k) (Value.pointer (some { block := g, off := o + k * 3 })) (Value.pointer (some { block := g, off := o + k * 3 + 1 })) (Value.agg #[Value.slice sa sn sc, Value.int IntKind.i64 ty.base]) (Value.agg #[Value.slice sa sn sc, Value.int IntKind.i64 ty.base]) (Value.bool true) (Value.bool false) (u34) (undef) (fun | 35 => u35 | 36 => u36 | 37 => u37 | 38 => u38 | 39 => u39 | 40 => u40 | 41 => u41 | 42 => u42 | 43 => u43 | 44 => u44 | 45 => u45 | 46 => u46 | 47 => u47 | 48 => u48 | _ => undef)) W
        refine region_spine [(0, 0), (1, 0), (2, 0), (3, 0), (4, 0), (5, 0), (6, 0), (7, 0), (8, 0), (9, 0), (10, 0), (11, 0), (13, 1)] [12, 14] (fun s => Nat.ble 35 s && Nat.ble s 48) (VT8 N R M X k g o nc cac vk (.slice sa sn sc) x.name ty ((cutT cs).take k)) (CT8 W R M k (.slice a m cap) vk x.name ty ((cutT cs).take k)) (by kernel_rfl) (by kernel_rfl) (by kernel_rfl) (by kernel_rfl) (fun _ _ _ _ _ h hb => h.mono hb) (fun _ _ _ h hb => h.mono hb) ⟨fun _ => (Below.refl _ _).drew, (fun e => by cases e), (fun e => by cases e)⟩ ⟨?_, ?_, ?_, ?_, ?_, ?_, ?_, ?_, ?_, ?_, ?_, ?_, ?_, trivial⟩ ⟨?_, ?_, trivial⟩ ?_
        · intro o ho p hp _ z w hC hk K' hK
          cases ho
          obtain rfl : p = 0 := by omega
          have hB := hC.1 rfl
          have hK3 := hK (.pointer (some ⟨R, 1, none⟩)) w (fun s hs => by cases hs; exact rfl) (Below.refl _ _)
          simp only [over_actT8] at hK3 ⊢
          clear hK hk
          unfold actT8 at *
          refine want_plain rfl ?_
          go_simp
          exact hK3
        · intro o ho p hp _ z w hC hk K' hK
          cases ho
          obtain rfl : p = 0 := by omega
          have hB := hC.1 rfl
          have e35 : z 35 = .pointer (some ⟨R, 1, none⟩) := hk 35 (by decide +kernel) rfl
          have g0 := (cat hB bR.lt).trans (bR.cell 1)
          have hK3 := hK (vk) w (fun s hs => by cases hs; exact rfl) (Below.refl _ _)
          simp only [over_actT8] at hK3 ⊢
          clear hK hk
          unfold actT8 at *
          simp only [e35] at hK3 ⊢
          refine want_plain rfl ?_
          go_simp
          exact hK3
        · intro o ho p hp _ z w hC hk K' hK
          cases ho
          obtain rfl : p = 0 := by omega
          have hB := hC.1 rfl
          have hK3 := hK (.pointer (some ⟨N, 1, none⟩)) w (fun s hs => by cases hs; exact rfl) (Below.refl _ _)
          simp only [over_actT8] at hK3 ⊢
          clear hK hk
          unfold actT8 at *
          refine want_plain rfl ?_
          go_simp
          exact hK3
        · intro o ho p hp _ z w hC hk K' hK
          cases ho
          obtain rfl : p = 0 := by omega
          have hB := hC.1 rfl
          have e37 : z 37 = .pointer (some ⟨N, 1, none⟩) := hk 37 (by decide +kernel) rfl
          have g0 := (cat hB bN.lt).trans (bN.cell 1)
          have hK3 := hK (.slice (some ⟨g, o, none⟩) nc cac) w (fun s hs => by cases hs; exact rfl) (Below.refl _ _)
          simp only [over_actT8] at hK3 ⊢
          clear hK hk
          unfold actT8 at *
          simp only [e37] at hK3 ⊢
          refine want_plain rfl ?_
          go_simp
          exact hK3
        · intro o ho p hp _ z w hC hk K' hK
          cases ho
          obtain rfl : p = 0 := by omega
          have hB := hC.1 rfl
          have hK3 := hK (.int .i64 k) w (fun s hs => by cases hs; exact rfl) (Below.refl _ _)
          simp only [over_actT8] at hK3 ⊢
          clear hK hk
          unfold actT8 at *
          refine want_plain rfl ?_
          go_simp
          exact hK3
        · intro o ho p hp _ z w hC hk K' hK
          cases ho
          obtain rfl : p = 0 := by omega
          have hB := hC.1 rfl
          have e38 : z 38 = .slice (some ⟨g, o, none⟩) nc cac := hk 38 (by decide +kernel) rfl
          have e39 : z 39 = .int .i64 k := hk 39 (by decide +kernel) rfl
          have hK3 := hK (.pointer (some ⟨g, o + k * 3, none⟩)) w (fun s hs => by cases hs; exact rfl) (Below.refl _ _)
          simp only [over_actT8] at hK3 ⊢
          clear hK hk
          unfold actT8 at *
          simp only [e38, e39] at hK3 ⊢
          refine want_plain rfl ?_
          go_simp
          exact hK3
        · intro o ho p hp _ z w hC hk K' hK
          cases ho
          obtain rfl : p = 0 := by omega
          have hB := hC.1 rfl
          have e40 : z 40 = .pointer (some ⟨g, o + k * 3, none⟩) := hk 40 (by decide +kernel) rfl
          have hK3 := hK (.pointer (some ⟨g, o + k * 3, none⟩)) w (fun s hs => by cases hs; exact rfl) (Below.refl _ _)
          simp only [over_actT8] at hK3 ⊢
          clear hK hk
          unfold actT8 at *
          simp only [e40] at hK3 ⊢
          refine want_plain rfl ?_
          go_simp
          exact hK3
        · intro o ho p hp _ z w hC hk K' hK
          cases ho
          obtain rfl : p = 0 := by omega
          have hB := hC.1 rfl
          have e41 : z 41 = .pointer (some ⟨g, o + k * 3, none⟩) := hk 41 (by decide +kernel) rfl
          have g0 := (cat hB hgW).trans p0
          have hK3 := hK (.string x.name) w (fun s hs => by cases hs; exact rfl) (Below.refl _ _)
          simp only [over_actT8] at hK3 ⊢
          clear hK hk
          unfold actT8 at *
          simp only [e41] at hK3 ⊢
          refine want_plain rfl ?_
          go_simp
          exact hK3
        · intro o ho p hp _ z w hC hk K' hK
          cases ho
          obtain rfl : p = 0 := by omega
          have hB := hC.1 rfl
          have g0 := (cat hB bX.lt).trans (bX.cell 0)
          have g1 := (cat hB bX.lt).trans (bX.cell 1)
          have hK3 := hK (tv (.slice sa sn sc) ty.base) w (fun s hs => by cases hs; exact rfl) (Below.refl _ _)
          simp only [over_actT8] at hK3 ⊢
          clear hK hk
          unfold actT8 at *
          refine want_plain rfl ?_
          go_simp
          exact hK3
        · intro o ho p hp _ z w hC hk K' hK
          cases ho
          obtain rfl : p = 0 := by omega
          have hB := hC.1 rfl
          have e43 : z 43 = tv (.slice sa sn sc) ty.base := hk 43 (by decide +kernel) rfl
          have hcall := To_calls ty _ (.slice sa sn sc) w (hsW.bel hB) (by omega)
          have hK3 := fun (w2 : World) (ya : Option Addr) (yn yc : Nat) (hv2 : Holds w2 (fun b => X ≤ b) ty.args (.slice ya yn yc)) (hb2 : Below w.heap.size w w2) => hK (tv (.slice ya yn yc) ty.base) w2 (fun s hs => by cases hs; exact fun _ => ⟨ya, yn, yc, rfl, hv2⟩) hb2
          simp only [over_actT8] at hK3 ⊢
          clear hK hk
          unfold actT8 at *
          simp only [e43] at hK3 ⊢
          refine want_plain rfl ?_
          go_simp
          refine ⟨trivial, (callsIn_wide.2 hcall).mono ?_⟩
          rintro e w2 ⟨v2, rfl, hv2, hb2⟩
          obtain ⟨ya, yc, rfl, _⟩ := hv2.shape
          exact hK3 w2 ya _ yc (hv2.mono fun b _ h => Nat.le_trans (Nat.le_trans hXW hB.size) h) hb2
        · intro o ho p hp _ z w hC hk K' hK
          cases ho
          obtain rfl : p = 0 := by omega
          have hB := hC.1 rfl
          have e42 : z 42 = .string x.name := hk 42 (by decide +kernel) rfl
          obtain ⟨a, n, c, e44, h44⟩ := hk 44 (by decide +kernel) rfl rfl
          have hK3 := hK (.agg #[.string x.name, .slice a n c, .int .i64 ty.base]) w (fun s hs => by cases hs; exact fun _ => ⟨a, n, c, rfl, h44⟩) (Below.refl _ _)
          simp only [over_actT8] at hK3 ⊢
          clear hK hk
          unfold actT8 at *
          simp only [e42, e44] at hK3 ⊢
          refine want_plain rfl ?_
          go_simp
          exact hK3
        · intro o ho p hp _ z w hC hk K' hK
          cases ho
          obtain rfl : p = 0 := by omega
          have hB := hC.1 rfl
          obtain ⟨a, n, c, e45, h45⟩ := hk 45 (by decide +kernel) rfl rfl
          have hK3 := hK (.slice (some ⟨w.heap.size, 0, none⟩) 1 1) (w.alloc (.cells #[.string x.name, .slice a n c, .int .i64 ty.base] 60)) (fun s hs => by cases hs; exact fun _ => ⟨w.heap.size, a, n, c, rfl, Blk.new w 60 _, h45.alloc _⟩) ((Below.refl _ _).alloc (Nat.le_refl _) _)
          simp only [over_actT8] at hK3 ⊢
          clear hK hk
          unfold actT8 at *
          simp only [e45] at hK3 ⊢
          refine want_plain rfl ?_
          go_simp
          exact hK3
        · intro o ho p hp _ z w hC hk K' hK
          cases ho
          have hK3 := hK (.pointer (some ⟨R, 1, none⟩)) w (fun s hs => by cases hs; exact rfl) (Below.refl _ _)
          simp only [over_actT8] at hK3 ⊢
          clear hK hk
          unfold actT8 at *
          refine want_plain rfl ?_
          go_simp
          exact hK3
        · intro o ho z w hC hk K' hK
          cases ho
          have hB := hC.1 rfl
          have eS : z 36 = vk := hk 36 (by decide +kernel) rfl
          obtain ⟨g9, ya, yn, yc, eA, bA, h46⟩ := hk 46 (by decide +kernel) rfl rfl
          have hmw := hmk2.bel hB
          have hrw := hmw.row
          rw [HKK.out] at hrw
          simp only [over_actT8] at hK ⊢
          refine want_plain rfl (append_in rfl (.tmp 36) (.tmp 46) 26 rfl M 60 i47 (.agg #[.string ⟨#[]⟩, .slice none 0 0, .int .i64 0]) 3 48 Tryz.underlying26 hi47 hz470 hz471 hz472 rfl (by decide) vk k (ccells ps) eS hrw ⟨g9, 0, none⟩ 1 1 [.string x.name, .slice ya yn yc, .int .i64 ty.base] eA rfl ?_ (by simp [Value.oneCell']) (by omega) (by unfold maxLen; omega) (by omega) (by have := hB.size; omega) ?_)
          · intro i u hi
            have e : ((⟨g9, 0, none⟩ : Addr).add i) = ⟨g9, i, none⟩ := by simp [Addr.add]; omega
            rw [e, bA.cell i]
            simpa using hi
          · intro g cap8 w' hown hgrow hat hlt
            have hq := (⟨ps ++ [(.slice ya yn yc, ⟨x.name, ty⟩)], hmw.snoc (cap := cap8) (L := X) (x := ⟨x.name, ty⟩) HKK.out h46 hMX hvX hgrow hat hown, by rw [List.length_append, HKK.out]; rfl, by rw [List.map_append, HP.out]; rfl⟩ : ∃ qs, MkC w' M (.slice (some ⟨g, 0, none⟩) (k + 1) cap8) qs ∧ qs.length = k + 1 ∧ qs.map (·.2) = (cutT cs).take k ++ [⟨x.name, ty⟩])
            refine hK _ w' (fun i hs => by cases hs; exact ⟨by omega, ⟨g, cap8, rfl⟩, hq⟩) ⟨by omega, fun _ => ?_, by omega⟩ (fun s x h => ?_)
            · exact ⟨hgrow.os.trans hB.os, hgrow.tape.trans hB.tape, hgrow.output.trans hB.output, Nat.le_trans hB.size hgrow.size, fun i hi hn => (hgrow.block i (Nat.lt_of_lt_of_le hi hB.size) hn).trans (hB.block i hi)⟩
            · revert h
              unfold VT8
              split <;> intro h
              · exact h
              · exact h
              · exact h
              · exact h
              · exact h
              · exact h
              · exact h
              · exact h
              · exact h
              · exact fun e0 => absurd e0 (by omega)
              · exact fun e0 => absurd e0 (by omega)
              · exact fun e0 => absurd e0 (by omega)
              · exact absurd h.1 (by omega)
              · exact h
              · trivial
        · intro o ho z w hC hk K' hK
          cases ho
          have eP : z 48 = .pointer (some ⟨R, 1, none⟩) := hk 48 (by decide +kernel) rfl
          obtain ⟨_, ⟨g9, c9, eV⟩, hq⟩ := hk 47 (by decide +kernel) rfl
          have hG := hC.2.1 rfl
          have hbR : Blk w R 28 #[.slice a m cap, vk] := bR.kept hG (fun e => hnR e.symm)
          have f0 := hbR.frozen 1
          have p0 := hbR.cell 1
          rw [eV] at hq
          have hK3 := hK undef (w.setCell ⟨R, 1, none⟩ (.slice (some ⟨g9, 0, none⟩) (k + 1) c9)) (fun i hs => by cases hs) ⟨by omega, by omega, fun _ => ⟨_, hbR.set 1 _, (by obtain ⟨ps, h8, h9⟩ := hq; exact ⟨ps, h8.set (by omega) 1 _, h9⟩), w, hG, (Only.refl _ _).set (by simp) 1 _⟩⟩ (fun s x h => by
            revert h
            unfold VT8
            split <;> intro h
            · exact h
            · exact h
            · exact h
            · exact h
            · exact h
            · exact h
            · exact h
            · exact h
            · exact h
            · exact fun e0 => absurd e0 (by omega)
            · exact fun e0 => absurd e0 (by omega)
            · exact fun e0 => absurd e0 (by omega)
            · exact ⟨by omega, h.2.1, (by obtain ⟨ps, h8, h9⟩ := h.2.2; exact ⟨ps, h8.set (by omega) 1 _, h9⟩)⟩
            · exact h
            · trivial)
          simp only [over_actT8] at hK3 ⊢
          clear hK hk
          unfold actT8 at *
          simp only [eP, eV] at hK3 ⊢
          refine want_plain rfl ?_
          go_simp
          exact hK3
        · intro z w' hC _
          obtain ⟨v', hbR', hq', w1, hG, hO⟩ := hC.2.2 rfl
          rw [over_actT8]
          refine hKs _ _ ?_
          unfold actT8
          have n0 := (bN.kept hG (fun e => hn0 e.symm)).only hO (by simp; omega)
          have n1 := (bN1.kept hG (fun e => hn1 e.symm)).only hO (by simp; omega)
          have hbl' : Below N w w' := (blW.grown hG (by have := bR.lt; omega) (fun i hi => by have := (hmk2.lt i hi).1; omega)).trans (hO.below (by have := hG.size; have := bR.lt; omega) (fun i hi => by simp at hi; omega))
          obtain ⟨qs, hm', hl', hp'⟩ := hq'
          rw [← HCC.out, ← HP.out, HP2.out] at hp'
          go_wp2
          exact ⟨⟨k + 1, v', qs, by omega, by go_num, hl', hp', n0, n1, hbR', hm', hbl'⟩, by simp [intOf]; omega⟩
      | false =>
        have HCC : Hid (cutC x = ⟨x.name, tA⟩) := by show _ = _; rw [cutC, HCU.out]; rfl
        have f0 := bX.frozen 0
        have f1 := bX.frozen 1
        have gX0 := bX.cell 0
        have gX1 := bX.cell 1
        clear HCU hsx
        go_wp2_with fail
        have bX2 := (bX.set 0 (.slice none 0 0)).set 1 (.int .i64 0)
        have hO : Only [X] w2 ((w2.setCell ⟨X, 0, none⟩ (.slice none 0 0)).setCell ⟨X, 1, none⟩ (.int .i64 0)) := ((Only.refl _ _).set (by simp) 0 _).set (by simp) 1 _
        clear f0 f1 gX0 gX1 bX
        generalize (w2.setCell ⟨X, 0, none⟩ (.slice none 0 0)).setCell ⟨X, 1, none⟩ (.int .i64 0) = W at *
        have bR := e2.only hO (by simp; omega)
        have bN := e0.only hO (by simp; omega)
        have bN1 := e1.only hO (by simp; omega)
        have blW := hblw.trans (hO.below (n := N) (by have := e0.lt; omega) (fun i hi => by simp at hi; omega))
        have p0' := (hO.cell (p := ⟨g, o + k * 3, none⟩) (lt_of_cell p0) (by simp; omega)).trans p0
        have hmkW := HMK.out.bel (by rw [HXX.out]; exact HB2.out.trans (hO.below (n := X) (by have h9 := HB2.out.size; rw [HXX.out] at h9; exact h9) (fun i hi => by simp at hi; omega)))
        clear e2 e0 e1 hblw p0 hmk2 hO
        have e2 := bR
        have p0 := p0'
        have hmk2 := hmkW
        obtain ⟨sb, sm, sd, hsl⟩ : ∃ (sb : Option Addr) (sm sd : Nat), Value.slice none 0 0 = .slice sb sm sd := ⟨_, _, _, rfl⟩
        obtain ⟨ty, hty⟩ : ∃ ty, ty = tA := ⟨_, rfl⟩
        have hsW : Holds W (fun b => b < N) ty.args (.slice sb sm sd) := by rw [← hsl, hty]; exact Holds.nil _ _ _ _ (fun _ => rfl)
        have bX : Blk W X 49 #[.slice sb sm sd, .int .i64 ty.base] := by rw [← hsl, hty]; exact bX2
        have hz : ty.size ≤ 100 := by rw [hty]; decide +kernel
        rw [← hty] at HCC
        clear hsl hty bX2 p0' hmkW
        have hXW : X ≤ W.heap.size := by have := bX.lt; omega
        have hgW : g < W.heap.size := by omega
        rename_i K Q' hKs
        refine (wpIn_wide (n := 9)).1 ?_
        show Code.wpIn Fence.wide 9 Tryz.prog (Code.region 8 _ true) _ (actT8 N R X k (tab (Value.slice a nb cap) (Value.slice (some { block := g, off := o }) nc cac)) (Value.pointer (some { block := N + 1, off := 0 })) (Value.pointer (some { block := N, off := 0 })) (Value.slice a nb cap) (Value.pointer (some { block := N, off := 0 })) (Value.slice a nb cap) (Value.int IntKind.i64 ↑nb) (Value.int IntKind.i64 ↑m) (Value.slice a m cap) (Value.agg #[Value.slice a m cap, Value.slice none 0 0]) (Value.int IntKind.i64 ↑k) (Value.pointer (some { block := N, off := 1 })) (Value.slice (some { block := g, off := o }) nc cac) (Value.int IntKind.i64 ↑nc) (Value.bool true) (Value.bool true) (Value.int IntKind.i64 ↑k) (Value.bool true) (Value.bool true) (u23) (u24) (Value.pointer (some { block := N, off := 1 })) (Value.slice (some { block := g, off := o }) nc cac) (Value.int IntKind.i64 ↑k) (Value.pointer (some { block := g, off := o + k * 3 })) (Value.pointer (some { block := g, off := o + k * 3 + 1 })) (Value.agg #[Value.slice sa x.ty.args.length sc, Value.int IntKind.i64 x.ty.base]) (Value.agg #[Value.slice sa x.ty.args.length sc, Value.int IntKind.i64 x.ty.base]) (Value.bool false) (Value.bool true) (Value.agg #[Value.slice none 0 0, Value.int IntKind.i64 0]) (undef) (fun | 35 => u35 | 36 => u36 | 37 => u37 | 38 => u38 | 39 => u39 | 40 => u40 | 41 => u41 | 42 => u42 | 43 => u43 | 44 => u44 | 45 => u45 | 46 => u46 | 47 => u47 | 48 => u48 | _ => undef)) W
        refine region_spine [(0, 0), (1, 0), (2, 0), (3, 0), (4, 0), (5, 0), (6, 0), (7, 0), (8, 0), (9, 0), (10, 0), (11, 0), (13, 1)] [12, 14] (fun s => Nat.ble 35 s && Nat.ble s 48) (VT8 N R M X k g o nc cac vk (.slice sb sm sd) x.name ty ((cutT cs).take k)) (CT8 W R M k (.slice a m cap) vk x.name ty ((cutT cs).take k)) (by kernel_rfl) (by kernel_rfl) (by kernel_rfl) (by kernel_rfl) (fun _ _ _ _ _ h hb => h.mono hb) (fun _ _ _ h hb => h.mono hb) ⟨fun _ => (Below.refl _ _).drew, (fun e => by cases e), (fun e => by cases e)⟩ ⟨?_, ?_, ?_, ?_, ?_, ?_, ?_, ?_, ?_, ?_, ?_, ?_, ?_, trivial⟩ ⟨?_, ?_, trivial⟩ ?_
        · intro o ho p hp _ z w hC hk K' hK
          cases ho
          obtain rfl : p = 0 := by omega
          have hB := hC.1 rfl
          have hK3 := hK (.pointer (some ⟨R, 1, none⟩)) w (fun s hs => by cases hs; exact rfl) (Below.refl _ _)
          simp only [over_actT8] at hK3 ⊢
          clear hK hk
          unfold actT8 at *
          refine want_plain rfl ?_
          go_simp
          exact hK3
        · intro o ho p hp _ z w hC hk K' hK
          cases ho
          obtain rfl : p = 0 := by omega
          have hB := hC.1 rfl
          have e35 : z 35 = .pointer (some ⟨R, 1, none⟩) := hk 35 (by decide +kernel) rfl
          have g0 := (cat hB bR.lt).trans (bR.cell 1)
          have hK3 := hK (vk) w (fun s hs => by cases hs; exact rfl) (Below.refl _ _)
          simp only [over_actT8] at hK3 ⊢
          clear hK hk
          unfold actT8 at *
          simp only [e35] at hK3 ⊢
          refine want_plain rfl ?_
          go_simp
          exact hK3
        · intro o ho p hp _ z w hC hk K' hK
          cases ho
          obtain rfl : p = 0 := by omega
          have hB := hC.1 rfl
          have hK3 := hK (.pointer (some ⟨N, 1, none⟩)) w (fun s hs => by cases hs; exact rfl) (Below.refl _ _)
          simp only [over_actT8] at hK3 ⊢
          clear hK hk
          unfold actT8 at *
          refine want_plain rfl ?_
          go_simp
          exact hK3
        · intro o ho p hp _ z w hC hk K' hK
          cases ho
          obtain rfl : p = 0 := by omega
          have hB := hC.1 rfl
          have e37 : z 37 = .pointer (some ⟨N, 1, none⟩) := hk 37 (by decide +kernel) rfl
          have g0 := (cat hB bN.lt).trans (bN.cell 1)
          have hK3 := hK (.slice (some ⟨g, o, none⟩) nc cac) w (fun s hs => by cases hs; exact rfl) (Below.refl _ _)
          simp only [over_actT8] at hK3 ⊢
          clear hK hk
          unfold actT8 at *
          simp only [e37] at hK3 ⊢
          refine want_plain rfl ?_
          go_simp
          exact hK3
        · intro o ho p hp _ z w hC hk K' hK
          cases ho
          obtain rfl : p = 0 := by omega
          have hB := hC.1 rfl
          have hK3 := hK (.int .i64 k) w (fun s hs => by cases hs; exact rfl) (Below.refl _ _)
          simp only [over_actT8] at hK3 ⊢
          clear hK hk
          unfold actT8 at *
          refine want_plain rfl ?_
          go_simp
          exact hK3
        · intro o ho p hp _ z w hC hk K' hK
          cases ho
          obtain rfl : p = 0 := by omega
          have hB := hC.1 rfl
          have e38 : z 38 = .slice (some ⟨g, o, none⟩) nc cac := hk 38 (by decide +kernel) rfl
          have e39 : z 39 = .int .i64 k := hk 39 (by decide +kernel) rfl
          have hK3 := hK (.pointer (some ⟨g, o + k * 3, none⟩)) w (fun s hs => by cases hs; exact rfl) (Below.refl _ _)
          simp only [over_actT8] at hK3 ⊢
          clear hK hk
          unfold actT8 at *
          simp only [e38, e39] at hK3 ⊢
          refine want_plain rfl ?_
          go_simp
          exact hK3
        · intro o ho p hp _ z w hC hk K' hK
          cases ho
          obtain rfl : p = 0 := by omega
          have hB := hC.1 rfl
          have e40 : z 40 = .pointer (some ⟨g, o + k * 3, none⟩) := hk 40 (by decide +kernel) rfl
          have hK3 := hK (.pointer (some ⟨g, o + k * 3, none⟩)) w (fun s hs => by cases hs; exact rfl) (Below.refl _ _)
          simp only [over_actT8] at hK3 ⊢
          clear hK hk
          unfold actT8 at *
          simp only [e40] at hK3 ⊢
          refine want_plain rfl ?_
          go_simp
          exact hK3
        · intro o ho p hp _ z w hC hk K' hK
          cases ho
          obtain rfl : p = 0 := by omega
          have hB := hC.1 rfl
          have e41 : z 41 = .pointer (some ⟨g, o + k * 3, none⟩) := hk 41 (by decide +kernel) rfl
          have g0 := (cat hB hgW).trans p0
          have hK3 := hK (.string x.name) w (fun s hs => by cases hs; exact rfl) (Below.refl _ _)
          simp only [over_actT8] at hK3 ⊢
          clear hK hk
          unfold actT8 at *
          simp only [e41] at hK3 ⊢
          refine want_plain rfl ?_
          go_simp
          exact hK3
        · intro o ho p hp _ z w hC hk K' hK
          cases ho
          obtain rfl : p = 0 := by omega
          have hB := hC.1 rfl
          have g0 := (cat hB bX.lt).trans (bX.cell 0)
          have g1 := (cat hB bX.lt).trans (bX.cell 1)
          have hK3 := hK (tv (.slice sb sm sd) ty.base) w (fun s hs => by cases hs; exact rfl) (Below.refl _ _)
          simp only [over_actT8] at hK3 ⊢
          clear hK hk
          unfold actT8 at *
          refine want_plain rfl ?_
          go_simp
          exact hK3
        · intro o ho p hp _ z w hC hk K' hK
          cases ho
          obtain rfl : p = 0 := by omega
          have hB := hC.1 rfl
          have e43 : z 43 = tv (.slice sb sm sd) ty.base := hk 43 (by decide +kernel) rfl
          have hcall := To_calls ty _ (.slice sb sm sd) w (hsW.bel hB) (by omega)
          have hK3 := fun (w2 : World) (ya : Option Addr) (yn yc : Nat) (hv2 : Holds w2 (fun b => X ≤ b) ty.args (.slice ya yn yc)) (hb2 : Below w.heap.size w w2) => hK (tv (.slice ya yn yc) ty.base) w2 (fun s hs => by cases hs; exact fun _ => ⟨ya, yn, yc, rfl, hv2⟩) hb2
          simp only [over_actT8] at hK3 ⊢
          clear hK hk
          unfold actT8 at *
          simp only [e43] at hK3 ⊢
          refine want_plain rfl ?_
          go_simp
          refine ⟨trivial, (callsIn_wide.2 hcall).mono ?_⟩
          rintro e w2 ⟨v2, rfl, hv2, hb2⟩
          obtain ⟨ya, yc, rfl, _⟩ := hv2.shape
          exact hK3 w2 ya _ yc (hv2.mono fun b _ h => Nat.le_trans (Nat.le_trans hXW hB.size) h) hb2
        · intro o ho p hp _ z w hC hk K' hK
          cases ho
          obtain rfl : p = 0 := by omega
          have hB := hC.1 rfl
          have e42 : z 42 = .string x.name := hk 42 (by decide +kernel) rfl
          obtain ⟨a, n, c, e44, h44⟩ := hk 44 (by decide +kernel) rfl rfl
          have hK3 := hK (.agg #[.string x.name, .slice a n c, .int .i64 ty.base]) w (fun s hs => by cases hs; exact fun _ => ⟨a, n, c, rfl, h44⟩) (Below.refl _ _)
          simp only [over_actT8] at hK3 ⊢
          clear hK hk
          unfold actT8 at *
          simp only [e42, e44] at hK3 ⊢
          refine want_plain rfl ?_
          go_simp
          exact hK3
        · intro o ho p hp _ z w hC hk K' hK
          cases ho
          obtain rfl : p = 0 := by omega
          have hB := hC.1 rfl
          obtain ⟨a, n, c, e45, h45⟩ := hk 45 (by decide +kernel) rfl rfl
          have hK3 := hK (.slice (some ⟨w.heap.size, 0, none⟩) 1 1) (w.alloc (.cells #[.string x.name, .slice a n c, .int .i64 ty.base] 60)) (fun s hs => by cases hs; exact fun _ => ⟨w.heap.size, a, n, c, rfl, Blk.new w 60 _, h45.alloc _⟩) ((Below.refl _ _).alloc (Nat.le_refl _) _)
          simp only [over_actT8] at hK3 ⊢
          clear hK hk
          unfold actT8 at *
          simp only [e45] at hK3 ⊢
          refine want_plain rfl ?_
          go_simp
          exact hK3
        · intro o ho p hp _ z w hC hk K' hK
          cases ho
          have hK3 := hK (.pointer (some ⟨R, 1, none⟩)) w (fun s hs => by cases hs; exact rfl) (Below.refl _ _)
          simp only [over_actT8] at hK3 ⊢
          clear hK hk
          unfold actT8 at *
          refine want_plain rfl ?_
          go_simp
          exact hK3
        · intro o ho z w hC hk K' hK
          cases ho
          have hB := hC.1 rfl
          have eS : z 36 = vk := hk 36 (by decide +kernel) rfl
          obtain ⟨g9, ya, yn, yc, eA, bA, h46⟩ := hk 46 (by decide +kernel) rfl rfl
          have hmw := hmk2.bel hB
          have hrw := hmw.row
          rw [HKK.out] at hrw
          simp only [over_actT8] at hK ⊢
          refine want_plain rfl (append_in rfl (.tmp 36) (.tmp 46) 26 rfl M 60 i47 (.agg #[.string ⟨#[]⟩, .slice none 0 0, .int .i64 0]) 3 48 Tryz.underlying26 hi47 hz470 hz471 hz472 rfl (by decide) vk k (ccells ps) eS hrw ⟨g9, 0, none⟩ 1 1 [.string x.name, .slice ya yn yc, .int .i64 ty.base] eA rfl ?_ (by simp [Value.oneCell']) (by omega) (by unfold maxLen; omega) (by omega) (by have := hB.size; omega) ?_)
          · intro i u hi
            have e : ((⟨g9, 0, none⟩ : Addr).add i) = ⟨g9, i, none⟩ := by simp [Addr.add]; omega
            rw [e, bA.cell i]
            simpa using hi
          · intro g cap8 w' hown hgrow hat hlt
            have hq := (⟨ps ++ [(.slice ya yn yc, ⟨x.name, ty⟩)], hmw.snoc (cap := cap8) (L := X) (x := ⟨x.name, ty⟩) HKK.out h46 hMX hvX hgrow hat hown, by rw [List.length_append, HKK.out]; rfl, by rw [List.map_append, HP.out]; rfl⟩ : ∃ qs, MkC w' M (.slice (some ⟨g, 0, none⟩) (k + 1) cap8) qs ∧ qs.length = k + 1 ∧ qs.map (·.2) = (cutT cs).take k ++ [⟨x.name, ty⟩])
            refine hK _ w' (fun i hs => by cases hs; exact ⟨by omega, ⟨g, cap8, rfl⟩, hq⟩) ⟨by omega, fun _ => ?_, by omega⟩ (fun s x h => ?_)
            · exact ⟨hgrow.os.trans hB.os, hgrow.tape.trans hB.tape, hgrow.output.trans hB.output, Nat.le_trans hB.size hgrow.size, fun i hi hn => (hgrow.block i (Nat.lt_of_lt_of_le hi hB.size) hn).trans (hB.block i hi)⟩
            · revert h
              unfold VT8
              split <;> intro h
              · exact h
              · exact h
              · exact h
              · exact h
              · exact h
              · exact h
              · exact h
              · exact h
              · exact h
              · exact fun e0 => absurd e0 (by omega)
              · exact fun e0 => absurd e0 (by omega)
              · exact fun e0 => absurd e0 (by omega)
              · exact absurd h.1 (by omega)
              · exact h
              · trivial
        · intro o ho z w hC hk K' hK
          cases ho
          have eP : z 48 = .pointer (some ⟨R, 1, none⟩) := hk 48 (by decide +kernel) rfl
          obtain ⟨_, ⟨g9, c9, eV⟩, hq⟩ := hk 47 (by decide +kernel) rfl
          have hG := hC.2.1 rfl
          have hbR : Blk w R 28 #[.slice a m cap, vk] := bR.kept hG (fun e => hnR e.symm)
          have f0 := hbR.frozen 1
          have p0 := hbR.cell 1
          rw [eV] at hq
          have hK3 := hK undef (w.setCell ⟨R, 1, none⟩ (.slice (some ⟨g9, 0, none⟩) (k + 1) c9)) (fun i hs => by cases hs) ⟨by omega, by omega, fun _ => ⟨_, hbR.set 1 _, (by obtain ⟨ps, h8, h9⟩ := hq; exact ⟨ps, h8.set (by omega) 1 _, h9⟩), w, hG, (Only.refl _ _).set (by simp) 1 _⟩⟩ (fun s x h => by
            revert h
            unfold VT8
            split <;> intro h
            · exact h
            · exact h
            · exact h
            · exact h
            · exact h
            · exact h
            · exact h
            · exact h
            · exact h
            · exact fun e0 => absurd e0 (by omega)
            · exact fun e0 => absurd e0 (by omega)
            · exact fun e0 => absurd e0 (by omega)
            · exact ⟨by omega, h.2.1, (by obtain ⟨ps, h8, h9⟩ := h.2.2; exact ⟨ps, h8.set (by omega) 1 _, h9⟩)⟩
            · exact h
            · trivial)
          simp only [over_actT8] at hK3 ⊢
          clear hK hk
          unfold actT8 at *
          simp only [eP, eV] at hK3 ⊢
          refine want_plain rfl ?_
          go_simp
          exact hK3
        · intro z w' hC _
          obtain ⟨v', hbR', hq', w1, hG, hO⟩ := hC.2.2 rfl
          rw [over_actT8]
          refine hKs _ _ ?_
          unfold actT8
          have n0 := (bN.kept hG (fun e => hn0 e.symm)).only hO (by simp; omega)
          have n1 := (bN1.kept hG (fun e => hn1 e.symm)).only hO (by simp; omega)
          have hbl' : Below N w w' := (blW.grown hG (by have := bR.lt; omega) (fun i hi => by have := (hmk2.lt i hi).1; omega)).trans (hO.below (by have := hG.size; have := bR.lt; omega) (fun i hi => by simp at hi; omega))
          obtain ⟨qs, hm', hl', hp'⟩ := hq'
          rw [← HCC.out, ← HP.out, HP2.out] at hp'
          go_wp2
          exact ⟨⟨k + 1, v', qs, by omega, by go_num, hl', hp', n0, n1, hbR', hm', hbl'⟩, by simp [intOf]; omega⟩
    · obtain rfl : k = n := by omega
      have u0 := hb2.cell 0
      have u1 := hb2.cell 1
      have s0 := hb1.cell 0
      have s1 := hb1.cell 1
      have f0 := hb1.frozen 0
      have f1 := hb1.frozen 1
      have hh4 := hmk.holds
      rw [HP.out, List.take_of_length_le (by unfold cutT; rw [List.length_map, HNN.out]; exact Nat.le_refl _)] at hh4
      obtain ⟨va, vc, rfl, _⟩ := hh4.shape
      generalize (cutT cs).length = yn at *
      have c0 := (hb1.set 0 (.slice a m cap)).set 1 (.slice va yn vc)
      have hO : Only [N + 1] wr ((wr.setCell ⟨N + 1, 0, none⟩ (.slice a m cap)).setCell ⟨N + 1, 1, none⟩ (.slice va yn vc)) := ((Only.refl _ _).set (by simp) 0 _).set (by simp) 1 _
      have hk2 := (hh4.only hO (fun b hb => by simp; omega)).mono (ok' := fun b => N ≤ b) (fun b _ hb => by omega)
      have hB5 := hbl.trans (hO.below (n := N) (by omega) (fun i hi => by simp at hi; omega))
      have hS5 := HS.out.bel (by rw [HN.out]; exact hB5)
      clear hO hh4 hmk
      by_cases hz : k < nc
      · have z1 : decide ((k : Int) < (nc : Int)) = true := by simp; omega
        have z2 : decide ((k : Int) < 30) = false := by simp; omega
        go_wp2
        generalize (wr.setCell ⟨N + 1, 0, none⟩ (.slice a m cap)).setCell ⟨N + 1, 1, none⟩ (.slice va yn vc) = W5 at *
        have d0 : W5.cell? ⟨N + 1, 0, none⟩ = some (.slice a m cap) := c0.cell 0
        have d1 : W5.cell? ⟨N + 1, 1, none⟩ = some (.slice va yn vc) := c0.cell 1
        exact bodyPost_ret (v := tab (.slice a m cap) (.slice va yn vc)) (by simp [results, Tryz.results4, go_sem, d0, d1]) rfl ⟨_, _, rfl, hS5, hk2, hB5⟩
      · have z1 : decide ((k : Int) < (nc : Int)) = false := by simp; omega
        go_wp2
        generalize (wr.setCell ⟨N + 1, 0, none⟩ (.slice a m cap)).setCell ⟨N + 1, 1, none⟩ (.slice va yn vc) = W5 at *
        have d0 : W5.cell? ⟨N + 1, 0, none⟩ = some (.slice a m cap) := c0.cell 0
        have d1 : W5.cell? ⟨N + 1, 1, none⟩ = some (.slice va yn vc) := c0.cell 1
        exact bodyPost_ret (v := tab (.slice a m cap) (.slice va yn vc)) (by simp [results, Tryz.results4, go_sem, d0, d1]) rfl ⟨_, _, rfl, hS5, hk2, hB5⟩

end Go.Proofs.YtdihplmlbfggjaaGreatDoor
