/-
  The contract of the document's up: a term whose loose indexes have grown, whose binders are told as they lie.
-/
import Derived.Test.YtheokboggjnenaaEtaRef
import Derived.Test.YtheokboggjnenaaShiftT
import Derived.Deep.DeepCutAuto
namespace Go.Proofs.Ytheokboggjnenaa
open Go Go.RowKit Go.Sort

def actU8 (N R j : Nat) (gy fr bb : Int) (y0 y3 y5 y6 y7 y8 y12 y13 y14 y15 y16 y17 y18 y19 y20 y21 y22 y23 y24 y25 y26 y27 y28 y29 y30 y31 y32 y33 y34 y35 y36 y37 y38 y39 y40 y41 y42 y43 y44 y45 y46 y47 y48 y49 y50 y51 y52 y53 y54 y55 y70 : Value) (u : Nat → Value) : Act :=
  { tmps := #[y0, .int .i64 gy, .int .i64 fr, y3, .pointer (some ⟨N, 0, none⟩), y5, y6, y7, y8, .int .i64 bb, .pointer (some ⟨R, 0, none⟩), .int .i64 (j : Int), y12, y13, y14, y15, y16, y17, y18, y19, y20, y21, y22, y23, y24, y25, y26, y27, y28, y29, y30, y31, y32, y33, y34, y35, y36, y37, y38, y39, y40, y41, y42, y43, y44, y45, y46, y47, y48, y49, y50, y51, y52, y53, y54, y55, u 56, u 57, u 58, u 59, u 60, u 61, u 62, u 63, u 64, u 65, u 66, u 67, u 68, u 69, y70], defers := [] }
theorem over_actU8 (N R j : Nat) (gy fr bb : Int) (y0 y3 y5 y6 y7 y8 y12 y13 y14 y15 y16 y17 y18 y19 y20 y21 y22 y23 y24 y25 y26 y27 y28 y29 y30 y31 y32 y33 y34 y35 y36 y37 y38 y39 y40 y41 y42 y43 y44 y45 y46 y47 y48 y49 y50 y51 y52 y53 y54 y55 y70 : Value) (u0 u : Nat → Value) : over (fun s => Nat.ble 56 s && Nat.ble s 69) u (actU8 N R j gy fr bb y0 y3 y5 y6 y7 y8 y12 y13 y14 y15 y16 y17 y18 y19 y20 y21 y22 y23 y24 y25 y26 y27 y28 y29 y30 y31 y32 y33 y34 y35 y36 y37 y38 y39 y40 y41 y42 y43 y44 y45 y46 y47 y48 y49 y50 y51 y52 y53 y54 y55 y70 u0) = actU8 N R j gy fr bb y0 y3 y5 y6 y7 y8 y12 y13 y14 y15 y16 y17 y18 y19 y20 y21 y22 y23 y24 y25 y26 y27 y28 y29 y30 y31 y32 y33 y34 y35 y36 y37 y38 y39 y40 y41 y42 y43 y44 y45 y46 y47 y48 y49 y50 y51 y52 y53 y54 y55 y70 u := rfl
def VU8 (N R M nn j g o cap : Nat) (gy fr bb : Int) (okq : Nat → Prop) (vk tvv : Value) (vt : Tm) (cs : List Tm) (p s : Nat) (w : World) (v : Value) : Prop := match s with
  | 56 => v = .pointer (some ⟨R, 3, none⟩)
  | 57 => v = vk
  | 58 => v = .pointer (some ⟨N, 3, none⟩)
  | 59 => v = .slice (some ⟨g, o, none⟩) nn cap
  | 60 => v = .int .i64 (j : Int)
  | 61 => v = .pointer (some ⟨g, o + j * 4, none⟩)
  | 62 => v = tvv
  | 63 => v = .int .i64 gy
  | 64 => v = .int .i64 fr
  | 65 => v = .int .i64 bb
  | 66 => p = 0 → ∃ e1 en e2 e3 em e4, v = tmv (.slice e1 en e2) vt.kind vt.idx (.slice e3 em e4) ∧ Holds w (fun b => okq b ∧ vk.ownBlock ≠ some b) vt.binds (.slice e1 en e2) ∧ HoldsT w (fun b => okq b ∧ vk.ownBlock ≠ some b) vt.args (.slice e3 em e4)
  | 67 => p = 0 → ∃ g e1 en e2 e3 em e4, v = .slice (some ⟨g, 0, none⟩) 1 1 ∧ Blk w g 27 #[.slice e1 en e2, .int .i64 vt.kind, .int .i64 vt.idx, .slice e3 em e4] ∧ Holds w (fun b => okq b ∧ vk.ownBlock ≠ some b) vt.binds (.slice e1 en e2) ∧ HoldsT w (fun b => okq b ∧ vk.ownBlock ≠ some b) vt.args (.slice e3 em e4)
  | 68 => 1 ≤ p ∧ (∃ g cap, v = .slice (some ⟨g, 0, none⟩) (j + 1) cap) ∧ ∃ ps, MkQ w M okq 27 (v) ps ∧ ps.length = j + 1 ∧ ps.map (·.t) = cs ++ [vt]
  | 69 => v = .pointer (some ⟨R, 3, none⟩)
  | _ => True
theorem VU8.mono {N R M nn j g o cap : Nat} {gy fr bb : Int} {okq : Nat → Prop} {vk tvv : Value} {vt : Tm} {cs : List Tm} {p s : Nat} {w w' : World} {v : Value} (h : VU8 N R M nn j g o cap gy fr bb okq vk tvv vt cs p s w v) (hb : Below w.heap.size w w') : VU8 N R M nn j g o cap gy fr bb okq vk tvv vt cs p s w' v := by
  revert h
  unfold VU8
  split <;> intro h
  · exact h
  · exact h
  · exact h
  · exact h
  · exact h
  · exact h
  · exact h
  · exact h
  · exact h
  · exact h
  · exact fun e0 => by obtain ⟨e1, en, e2, e3, em, e4, h1, h2, h3⟩ := h e0; exact ⟨e1, en, e2, e3, em, e4, h1, h2.bel hb, h3.bel hb⟩
  · exact fun e0 => by obtain ⟨g, e1, en, e2, e3, em, e4, h1, h2, h3, h4⟩ := h e0; exact ⟨g, e1, en, e2, e3, em, e4, h1, h2.below hb h2.lt, h3.bel hb, h4.bel hb⟩
  · exact ⟨h.1, h.2.1, (by obtain ⟨ps, h8, h9⟩ := h.2.2; exact ⟨ps, h8.bel hb, h9⟩)⟩
  · exact h
  · trivial
def CU8 (W : World) (R M j : Nat) (okq : Nat → Prop) (va vk : Value) (kk xx : Int) (vt : Tm) (cs : List Tm) (p : Nat) (w : World) : Prop :=
  (p = 0 → Below W.heap.size W w) ∧ (p = 1 → W.grownBy w (vk).ownBlock) ∧ (p = 2 → ∃ v', Blk w R 27 #[va, .int .i64 kk, .int .i64 xx, v'] ∧ (∃ ps, MkQ w M okq 27 (v') ps ∧ ps.length = j + 1 ∧ ps.map (·.t) = cs ++ [vt]) ∧ (∃ w1, W.grownBy w1 (vk).ownBlock ∧ Only [R] w1 w))
theorem CU8.mono {W : World} {R M j : Nat} {okq : Nat → Prop} {va vk : Value} {kk xx : Int} {vt : Tm} {cs : List Tm} {p : Nat} {w w' : World} (h : CU8 W R M j okq va vk kk xx vt cs p w) (hb : Below w.heap.size w w') : CU8 W R M j okq va vk kk xx vt cs p w' :=
  ⟨fun e => (h.1 e).trans (hb.mono (h.1 e).size), fun e => grownBy_bel (h.2.1 e) hb, fun e => by
    obtain ⟨v', h1, h2, w1, h3, h4⟩ := h.2.2 e
    exact ⟨v', h1.below hb h1.lt, (by obtain ⟨ps, h8, h9⟩ := h2; exact ⟨ps, h8.bel hb, h9⟩), w1, h3, h4.trans (Only.of_below' hb)⟩⟩

/-- up's own word of one term -/
def UpAt (gy fr : Int) (t : Tm) : Prop := ∀ (d b : Nat) (ok : Nat → Prop) (sb sr : Value) (w : World), (∀ p ∈ t.heads d b, grows gy fr p) → Holds w ok t.binds sb → HoldsT w ok t.args sr → t.total ≤ 1000000 → b + t.total ≤ 10000000 →
    Calls Try.prog 114 #[tmv sb t.kind t.idx sr, .int .i64 gy, .int .i64 fr, .int .i64 (b : Int)] w fun e w' => ∃ vb vr, e = .returned (tmv vb t.kind (shH gy fr t.kind t.idx (b + t.binds.length)) vr) ∧ Holds w' (fun c => ok c ∨ w.heap.size ≤ c) t.binds vb ∧ HoldsT w' (fun c => ok c ∨ w.heap.size ≤ c) (t.args.map (shT gy fr (b + t.binds.length))) vr ∧ Below w.heap.size w w'

set_option maxRecDepth 100000 in
set_option maxHeartbeats 1600000 in
theorem up_one (gy fr : Int) (t : Tm) (ih : ∀ u ∈ t.args, UpAt gy fr u) : UpAt gy fr t := by
  intro d b ok sb sr w hgr hb hr htt hbt
  have hgh := hgr ⟨d, b + t.binds.length, t.kind, t.idx⟩ (by rw [t.heads_eq]; simp)
  have hga := fun u (hu : u ∈ t.args) => grows_arg hgr hu
  have htot := t.total_eq
  have hlb := sizeL_length t.binds
  have hla := totalT_length t.args
  obtain ⟨x1, x2, rfl, _⟩ := hb.shape
  obtain ⟨bn, hbn⟩ : ∃ n, t.binds.length = n := ⟨_, rfl⟩
  rw [hbn] at hb hgh hga hlb ⊢
  obtain ⟨ts, hts⟩ : ∃ ts, t.args = ts := ⟨_, rfl⟩
  rw [hts] at hr ih hga htot hla ⊢
  obtain ⟨a, cap, rfl, hcap, hat⟩ := hr.shape
  have HA : Hid _ := hat
  obtain ⟨N, hN⟩ : ∃ N, w.heap.size = N := ⟨_, rfl⟩
  have HN : Hid (w.heap.size = N) := hN
  obtain ⟨x, hx⟩ : ∃ x, shH gy fr t.kind t.idx (b + bn) = x := ⟨_, rfl⟩
  have HX : Hid (shH gy fr t.kind t.idx (b + bn) = x) := hx
  rw [hN, hx]
  clear hat hx
  obtain ⟨k, hk9⟩ : ∃ k, t.kind = k := ⟨_, rfl⟩
  obtain ⟨i, hi9⟩ : ∃ k, t.idx = k := ⟨_, rfl⟩
  rw [hk9, hi9] at hgh HX
  rw [hk9, hi9]
  obtain ⟨W0, hW0⟩ : ∃ W0, (w.alloc (.cells #[.slice x1 bn x2, .int .i64 k, .int .i64 i, .slice a ts.length cap] 27)).alloc (.cells #[.slice none 0 0, .int .i64 0, .int .i64 0, .slice none 0 0] 27) = W0 := ⟨_, rfl⟩
  have b1 : Blk W0 N 27 #[.slice x1 bn x2, .int .i64 k, .int .i64 i, .slice a ts.length cap] := by rw [← hW0]; exact (Blk.new' _ N 27 _ hN).alloc _
  have b2 : Blk W0 (N + 1) 27 #[.slice none 0 0, .int .i64 0, .int .i64 0, .slice none 0 0] := by rw [← hW0]; exact Blk.new' _ (N + 1) 27 _ (by simp [hN])
  have hz0 : W0.heap.size = N + 2 := by rw [← hW0]; simp [hN]
  have bl0 : Below N w W0 := by rw [← hW0]; exact ((Below.refl N w).alloc (by omega) _).alloc (by simp; omega) _
  have HW : Hid _ := hW0
  have hl2 : ts.length ≤ 1000000 := by omega
  have c0 := b1.cell 0
  have c1 := b1.cell 1
  have c2 := b1.cell 2
  have c3 := b1.cell 3
  obtain ⟨W1, hW1⟩ : ∃ W1, W0.alloc (.cells #[.slice x1 bn x2, .int .i64 k, .int .i64 i, .slice none 0 0] 27) = W1 := ⟨_, rfl⟩
  obtain ⟨W2, hW2⟩ : ∃ W2, W0.alloc (.cells #[.slice x1 bn x2, .int .i64 k, .int .i64 x, .slice none 0 0] 27) = W2 := ⟨_, rfl⟩
  have HW1 : Hid _ := hW1
  have HW2 : Hid _ := hW2
  have b1w : Blk W1 N 27 #[.slice x1 bn x2, .int .i64 k, .int .i64 i, .slice a ts.length cap] := by rw [← hW1]; exact b1.alloc _
  have bRw : Blk W1 (N + 2) 27 #[.slice x1 bn x2, .int .i64 k, .int .i64 i, .slice none 0 0] := by rw [← hW1]; exact Blk.new' _ (N + 2) 27 _ hz0
  have d1 := b1w.cell 1
  have d2 := b1w.cell 2
  obtain ⟨⟨hf1, hf2⟩, hgf⟩ := hgh
  dsimp only at hf1 hf2
  have hbn9 : (bn : Int) ≤ 1000000 := by omega
  have hb9i : (b : Int) ≤ 10000000 := by omega
  clear hW0 hW1 hW2
  go_enter Try.func114, Try.ntmps114
  go_upto_region 1 with fail
  rw [HW.out]
  clear HW
  go_upto_region 3 with fail
  rw [HW1.out]
  obtain ⟨tv, htv⟩ : ∃ v : Bool, (decide (k = 0) && (decide ((b : Int) + (bn : Int) ≤ i) && decide (fr ≤ i - ((b : Int) + (bn : Int))))) = v := ⟨_, rfl⟩
  have HTV : Hid _ := htv
  have hx1 : Hid (tv = true → k = 0 ∧ x = i + gy ∧ fits (i + gy)) := fun e => by
    rw [← htv, Bool.and_eq_true, Bool.and_eq_true, decide_eq_true_iff, decide_eq_true_iff, decide_eq_true_iff] at e
    refine ⟨e.1, ?_, hgf (i - ((b + bn : Nat) : Int)) (by unfold Hd.out; rw [if_pos ⟨e.1, by simp only; omega⟩]) (by omega)⟩
    rw [← HX.out]
    unfold shH
    rw [if_pos ⟨e.1, by omega, by omega⟩]
  have hx2 : Hid (tv = false → x = i) := fun e => by
    rw [← HX.out]
    unfold shH
    rw [if_neg]
    intro h
    have : tv = true := by
      rw [← htv, Bool.and_eq_true, Bool.and_eq_true, decide_eq_true_iff, decide_eq_true_iff, decide_eq_true_iff]
      exact ⟨h.1, by omega, by omega⟩
    rw [e] at this
    cases this
  clear htv
  go_cut [41] (fun s41 wx => s41 = .bool tv ∧ wx = W1)
  case first =>
    have htv := HTV.out
    clear HTV hx1 hx2 hgf
    by_cases e1 : k = 0
    · have z1 : (k == 0) = true := by simp [e1]
      by_cases e2 : (b : Int) + (bn : Int) ≤ i
      · have z2 : decide (i ≥ (b : Int) + (bn : Int)) = true := decide_eq_true e2
        have z3 : decide ((b : Int) + (bn : Int) ≤ i) = true := decide_eq_true e2
        have hw1 : wrap64 (i - ((b : Int) + (bn : Int))) = i - ((b : Int) + (bn : Int)) := by unfold wrap64; omega
        have hw2 : IntKind.i64.wrap (i - ((b : Int) + (bn : Int))) = i - ((b : Int) + (bn : Int)) := by rw [IntKind.wrap_i64]; omega
        by_cases e3 : fr ≤ i - ((b : Int) + (bn : Int))
        · have z4 : decide (i - ((b : Int) + (bn : Int)) ≥ fr) = true := decide_eq_true e3
          have z5 : decide (fr ≤ i - ((b : Int) + (bn : Int))) = true := decide_eq_true e3
          have ztv : tv = true := by rw [← htv]; simp [e1, e2, e3]
          subst ztv
          clear e1 htv
          go_wp2_with fail
          go_meet
          exact ⟨rfl, rfl⟩
        · have z4 : decide (i - ((b : Int) + (bn : Int)) ≥ fr) = false := decide_eq_false e3
          have z5 : decide (fr ≤ i - ((b : Int) + (bn : Int))) = false := decide_eq_false e3
          have ztv : tv = false := by rw [← htv]; simp [e3]
          subst ztv
          clear e1 htv
          go_wp2_with fail
          go_meet
          exact ⟨rfl, rfl⟩
      · have z2 : decide (i ≥ (b : Int) + (bn : Int)) = false := decide_eq_false e2
        have z3 : decide ((b : Int) + (bn : Int) ≤ i) = false := decide_eq_false e2
        have ztv : tv = false := by rw [← htv]; simp [e2]
        obtain ⟨v, hv⟩ : ∃ v, IntKind.i64.wrap (i - ((b : Int) + (bn : Int))) = v := ⟨_, rfl⟩
        have hv2 : wrap64 (i - ((b : Int) + (bn : Int))) = v := by unfold wrap64; rw [← hv, IntKind.wrap_i64]
        obtain ⟨q, hq⟩ : ∃ q : Bool, decide (v ≥ fr) = q := ⟨_, rfl⟩
        have hq2 : decide (fr ≤ v) = q := hq
        subst ztv
        clear e1 e2 htv
        cases q with
        | true =>
          go_wp2_with fail
          go_meet
          exact ⟨rfl, rfl⟩
        | false =>
          go_wp2_with fail
          go_meet
          exact ⟨rfl, rfl⟩
    · have z1 : (k == 0) = false := by simp [e1]
      have ztv : tv = false := by rw [← htv]; simp [e1]
      subst ztv
      clear e1 htv
      go_wp2_with fail
      go_meet
      exact ⟨rfl, rfl⟩
  case rest =>
  obtain ⟨rfl, rfl⟩ := hcut
  go_upto_if 41 with fail
  go_cut [] (fun wx => wx = W2)
  case first =>
    cases tv with
    | true =>
      obtain ⟨hk0, rfl, hg1, hg2⟩ := hx1.out rfl
      have g2 := bRw.cell 2
      have fz2 := bRw.frozen 2
      have HWW : Hid (wc.setCell ⟨N + 2, 2, none⟩ (.int .i64 (i + gy)) = W2) := by
        show _ = _
        rw [← HW1.out, ← HW2.out]
        rw [World.setCell_alloc_at _ _ _ _ _ hz0.symm]
        rfl
      clear hx1 hx2 hk0 HTV HX
      go_wp2_with fail
      go_meet
      exact HWW.out
    | false =>
      obtain rfl : x = i := hx2.out rfl
      have HWW : Hid (wc = W2) := by show _ = _; rw [← HW1.out, ← HW2.out]
      clear hx1 hx2 HTV HX
      go_wp2_with fail
      go_meet
      exact HWW.out
  case rest =>
  clear hx1 hx2 HTV b1w bRw d1 d2 HW1
  obtain rfl := hcut
  have b1c : Blk wc N 27 #[.slice x1 bn x2, .int .i64 k, .int .i64 i, .slice a ts.length cap] := by rw [← HW2.out]; exact b1.alloc _
  have b2c : Blk wc (N + 1) 27 #[.slice none 0 0, .int .i64 0, .int .i64 0, .slice none 0 0] := by rw [← HW2.out]; exact b2.alloc _
  have bRc : Blk wc (N + 2) 27 #[.slice x1 bn x2, .int .i64 k, .int .i64 x, .slice none 0 0] := by rw [← HW2.out]; exact Blk.new' _ (N + 2) 27 _ hz0
  have hzc : wc.heap.size = N + 3 := by rw [← HW2.out]; simp [hz0]
  have blc : Below N w wc := by rw [← HW2.out]; exact bl0.alloc (by omega) _
  obtain ⟨R, hR⟩ : ∃ R, N + 2 = R := ⟨_, rfl⟩
  obtain ⟨M, hM⟩ : ∃ M, N + 3 = M := ⟨_, rfl⟩
  have hb9 : Holds w (fun c => ok c ∧ c < N) t.binds (.slice x1 bn x2) := hb.mono fun b h1 h2 => ⟨h2, by omega⟩
  rw [hR] at bRc ⊢
  rw [hM] at hzc
  have HIH : Hid (∀ u ∈ ts, UpAt gy fr u) := ih
  have HGA : Hid _ := hga
  obtain ⟨i0, hi, hz0', hz1, hz2⟩ := info_parts info27
  obtain ⟨okq, hokq⟩ : ∃ okq : Nat → Prop, okq = fun b => (ok b ∧ b < N) ∨ M ≤ b := ⟨_, rfl⟩
  have HOK : Hid _ := hokq
  have hnR : ¬ okq R := by rw [hokq]; intro h; rcases h with h | h <;> omega
  have HTT : Hid (∀ u ∈ ts, u.total ≤ 1000000 ∧ b + bn + u.total ≤ 10000000) := fun u hu => by have := total_mem hu; omega
  clear b1 b2 bl0 hz0 ih hga hgr hb HW2 HX c0 c1 c2 c3 hokq hgf htt hbt htot
  go_wp2_with fail
  go_loopw [11] (fun i' wr => ∃ (j : Nat) (vk : Value) (ps : List Tc), j ≤ ts.length ∧ i' = .int .i64 j ∧ Hid (ps.map (·.t) = (ts.map (shT gy fr (b + bn))).take j) ∧ Blk wr N 27 #[.slice x1 bn x2, .int .i64 k, .int .i64 i, .slice a ts.length cap] ∧ Blk wr (N + 1) 27 #[.slice none 0 0, .int .i64 0, .int .i64 0, .slice none 0 0] ∧ Blk wr R 27 #[.slice x1 bn x2, .int .i64 k, .int .i64 x, vk] ∧ M ≤ wr.heap.size ∧ MkQ wr M okq 27 vk ps ∧ Below N w wr)
    (fun i' _ => ts.length - (intOf i').toNat)
  case atStart => exact ⟨0, _, [], Nat.zero_le _, rfl, rfl, b1c, b2c, bRc, (by omega), MkQ.nil _ _ _ _, blc⟩
  case round =>
    clear b1c b2c bRc blc hzc
    obtain ⟨j, vk, ps, hj, rfl, HP, hb1, hb2, hbR, hMw, hmk, hbl⟩ := hrel
    have hpl : ps.length = j := by have := congrArg List.length HP.out; simp at this; omega
    have l3 := hb1.cell 3
    by_cases hlt : j < ts.length
    · subst hpl
      obtain ⟨j, hjj⟩ : ∃ j, ps.length = j := ⟨_, rfl⟩
      rw [hjj] at hlt hj HP ⊢
      have HKK : Hid (ps.length = j) := hjj
      clear hjj
      obtain ⟨u, hu⟩ : ∃ u, ts[j]? = some u := ⟨_, List.getElem?_eq_getElem hlt⟩
      obtain ⟨g, o, s, s9, rfl, _, hg, a0, a1, a2, a3, hs, hs9⟩ := HA.out j u hu
      rw [HN.out] at hg
      have q0 := (cat hbl hg).trans a0
      have q1 := (cat hbl hg).trans a1
      have q2 := (cat hbl hg).trans a2
      have q3 := (cat hbl hg).trans a3
      have hm := List.mem_of_getElem? hu
      have y1 : (0 : Int) ≤ (j : Int) := by omega
      have y2 : (j : Int) < (ts.length : Int) := by omega
      obtain ⟨vt, hve⟩ : ∃ v, shT gy fr (b + bn) u = v := ⟨_, rfl⟩
      have hvk : Hid (vt.kind = u.kind) := by show _ = _; rw [← hve, shT_kind]
      have hvi : Hid (vt.idx = shH gy fr u.kind u.idx (b + bn + u.binds.length)) := by show _ = _; rw [← hve, shT_idx]
      have hvbn : Hid (vt.binds = u.binds) := by show _ = _; rw [← hve, shT_binds]
      have hva : Hid (vt.args = u.args.map (shT gy fr (b + bn + u.binds.length))) := by show _ = _; rw [← hve, shT_args]
      have hs2 : Holds wr (fun b => ok b ∧ b < N) u.binds s := (hs.mono fun b h1 h2 => ⟨h2, by have := HN.out; omega⟩).bel (by rw [HN.out]; exact hbl)
      have hs3 : HoldsT wr (fun b => ok b ∧ b < N) u.args s9 := (hs9.mono fun b h1 h2 => ⟨h2, by have := HN.out; omega⟩).bel (by rw [HN.out]; exact hbl)
      have HL : Hid (∀ b, vk.ownBlock = some b → M ≤ b ∧ b < wr.heap.size) := fun b hb => hmk.lt b hb
      have hnoR : vk.ownBlock ≠ some R := fun e => by have := (hmk.lt R e).1; omega
      have hn1 : vk.ownBlock ≠ some N := fun e => by have := (hmk.lt N e).1; omega
      have hn2 : vk.ownBlock ≠ some (N + 1) := fun e => by have := (hmk.lt (N + 1) e).1; omega
      obtain ⟨s1, s2, rfl, _⟩ := hs.shape
      obtain ⟨s3, s4, rfl, _⟩ := hs9.shape
      obtain ⟨sn, hsn⟩ : ∃ n, u.binds.length = n := ⟨_, rfl⟩
      obtain ⟨sm, hsm⟩ : ∃ n, u.args.length = n := ⟨_, rfl⟩
      rw [hsn] at hs2 q0 hvi
      rw [hsm] at hs3 q3
      have hRw : R < wr.heap.size := hbR.lt
      have hcall9 : ∀ w, Below wr.heap.size wr w → Calls Try.prog 114 #[tmv (.slice s1 sn s2) u.kind u.idx (.slice s3 sm s4), .int .i64 gy, .int .i64 fr, .int .i64 ((b : Int) + (bn : Int))] w fun e w' => ∃ e1 en e2 e3 em e4, e = .returned (tmv (.slice e1 en e2) vt.kind vt.idx (.slice e3 em e4)) ∧ Holds w' (fun b => okq b ∧ vk.ownBlock ≠ some b) vt.binds (.slice e1 en e2) ∧ HoldsT w' (fun b => okq b ∧ vk.ownBlock ≠ some b) vt.args (.slice e3 em e4) ∧ Below w.heap.size w w' := fun w hB => by
        have h9 := HIH.out u hm (d + 1) (b + bn) _ _ _ w (HGA.out u hm) (hs2.bel hB) (hs3.bel hB) (HTT.out u hm).1 (HTT.out u hm).2
        rw [show ((b + bn : Nat) : Int) = (b : Int) + (bn : Int) by omega] at h9
        refine h9.mono fun e w' ⟨vb, vr, h1, h2, h3, h4⟩ => ?_
        obtain ⟨e1, e2, rfl, _⟩ := h2.shape
        obtain ⟨e3, e4, rfl, _⟩ := h3.shape
        have hokk : ∀ c, c < w'.heap.size → ((ok c ∧ c < N) ∨ w.heap.size ≤ c) → okq c ∧ vk.ownBlock ≠ some c := fun c _ h => by
          have hws := hB.size
          refine ⟨?_, fun e => ?_⟩
          · rw [HOK.out]
            rcases h with h | h
            · exact .inl h
            · exact .inr (by omega)
          · have := HL.out c e
            rcases h with h | h <;> omega
        refine ⟨e1, _, e2, e3, _, e4, ?_, by rw [hvbn.out]; exact h2.mono hokk, by rw [hva.out]; rw [hsn] at h3 ⊢; exact h3.mono hokk, h4⟩
        rw [h1, hvk.out, hvi.out, hsn]
      have HPX : Hid ((ts.map (shT gy fr (b + bn))).take j ++ [vt] = (ts.map (shT gy fr (b + bn))).take (j + 1)) := by
        show _ = _
        rw [List.take_add_one, List.getElem?_map, hu]
        simp [hve]
      have hgw : g < wr.heap.size := by have := hbl.size; omega
      clear a0 a1 a2 a3 hu hs hs2 hs9 hs3 hve hsn hsm
      go_upto_region 8 with fail
      rename_i K Q' hKs
      refine (wpIn_wide (n := 9)).1 ?_
      show Code.wpIn Fence.wide 9 Try.prog (Code.region 8 _ true) _ (actU8 N R j gy fr ((b : Int) + (bn : Int)) (tmv (Value.slice x1 bn x2) k i (Value.slice (some { block := g, off := o }) ts.length cap)) (Value.int IntKind.i64 ↑b) (undef) (undef) (undef) (Value.pointer (some { block := N + 1, off := 0 })) (u12) (u13) (u14) (u15) (u16) (u17) (u18) (u19) (u20) (u21) (u22) (u23) (u24) (u25) (u26) (u27) (u28) (u29) (u30) (u31) (u32) (u33) (u34) (u35) (u36) (u37) (u38) (u39) (u40) (u41) (u42) (u43) (u44) (u45) (u46) (u47) (u48) (Value.int IntKind.i64 ↑j) (Value.pointer (some { block := N, off := 3 })) (Value.slice (some { block := g, off := o }) ts.length cap) (Value.int IntKind.i64 ↑ts.length) (Value.bool true) (u54) (u55) (u70) (fun | 56 => u56 | 57 => u57 | 58 => u58 | 59 => u59 | 60 => u60 | 61 => u61 | 62 => u62 | 63 => u63 | 64 => u64 | 65 => u65 | 66 => u66 | 67 => u67 | 68 => u68 | 69 => u69 | _ => undef)) wr
      refine region_spine [(0, 0), (1, 0), (2, 0), (3, 0), (4, 0), (5, 0), (6, 0), (7, 0), (8, 0), (9, 0), (10, 0), (11, 0), (13, 1)] [12, 14] (fun s => Nat.ble 56 s && Nat.ble s 69) (VU8 N R M ts.length j g o cap gy fr ((b : Int) + (bn : Int)) okq vk (tmv (.slice s1 sn s2) u.kind u.idx (.slice s3 sm s4)) vt ((ts.map (shT gy fr (b + bn))).take j)) (CU8 wr R M j okq (.slice x1 bn x2) vk k x vt ((ts.map (shT gy fr (b + bn))).take j)) (by kernel_rfl) (by kernel_rfl) (by kernel_rfl) (by kernel_rfl) (fun _ _ _ _ _ h hb => h.mono hb) (fun _ _ _ h hb => h.mono hb) ⟨fun _ => (Below.refl _ _).drew, (fun e => by cases e), (fun e => by cases e)⟩ ⟨?_, ?_, ?_, ?_, ?_, ?_, ?_, ?_, ?_, ?_, ?_, ?_, ?_, trivial⟩ ⟨?_, ?_, trivial⟩ ?_
      · intro o ho p hp _ z w hC hk K' hK
        cases ho
        obtain rfl : p = 0 := by omega
        have hB := hC.1 rfl
        have hK3 := hK (.pointer (some ⟨R, 3, none⟩)) w (fun s hs => by cases hs; exact rfl) (Below.refl _ _)
        simp only [over_actU8] at hK3 ⊢
        clear hK hk
        unfold actU8 at hK3 ⊢
        refine want_plain rfl ?_
        go_simp
        exact hK3
      · intro o ho p hp _ z w hC hk K' hK
        cases ho
        obtain rfl : p = 0 := by omega
        have hB := hC.1 rfl
        have e56 : z 56 = .pointer (some ⟨R, 3, none⟩) := hk 56 (by decide +kernel) rfl
        have g0 := (cat hB hbR.lt).trans (hbR.cell 3)
        have hK3 := hK (vk) w (fun s hs => by cases hs; exact rfl) (Below.refl _ _)
        simp only [over_actU8] at hK3 ⊢
        clear hK hk
        unfold actU8 at hK3 ⊢
        simp only [e56] at hK3 ⊢
        refine want_plain rfl ?_
        go_simp
        exact hK3
      · intro o ho p hp _ z w hC hk K' hK
        cases ho
        obtain rfl : p = 0 := by omega
        have hB := hC.1 rfl
        have hK3 := hK (.pointer (some ⟨N, 3, none⟩)) w (fun s hs => by cases hs; exact rfl) (Below.refl _ _)
        simp only [over_actU8] at hK3 ⊢
        clear hK hk
        unfold actU8 at hK3 ⊢
        refine want_plain rfl ?_
        go_simp
        exact hK3
      · intro o ho p hp _ z w hC hk K' hK
        cases ho
        obtain rfl : p = 0 := by omega
        have hB := hC.1 rfl
        have e58 : z 58 = .pointer (some ⟨N, 3, none⟩) := hk 58 (by decide +kernel) rfl
        have g0 := (cat hB hb1.lt).trans (hb1.cell 3)
        have hK3 := hK (.slice (some ⟨g, o, none⟩) ts.length cap) w (fun s hs => by cases hs; exact rfl) (Below.refl _ _)
        simp only [over_actU8] at hK3 ⊢
        clear hK hk
        unfold actU8 at hK3 ⊢
        simp only [e58] at hK3 ⊢
        refine want_plain rfl ?_
        go_simp
        exact hK3
      · intro o ho p hp _ z w hC hk K' hK
        cases ho
        obtain rfl : p = 0 := by omega
        have hB := hC.1 rfl
        have hK3 := hK (.int .i64 (j : Int)) w (fun s hs => by cases hs; exact rfl) (Below.refl _ _)
        simp only [over_actU8] at hK3 ⊢
        clear hK hk
        unfold actU8 at hK3 ⊢
        refine want_plain rfl ?_
        go_simp
        exact hK3
      · intro o ho p hp _ z w hC hk K' hK
        cases ho
        obtain rfl : p = 0 := by omega
        have hB := hC.1 rfl
        have e59 : z 59 = .slice (some ⟨g, o, none⟩) ts.length cap := hk 59 (by decide +kernel) rfl
        have e60 : z 60 = .int .i64 (j : Int) := hk 60 (by decide +kernel) rfl
        have hK3 := hK (.pointer (some ⟨g, o + j * 4, none⟩)) w (fun s hs => by cases hs; exact rfl) (Below.refl _ _)
        simp only [over_actU8] at hK3 ⊢
        clear hK hk
        unfold actU8 at hK3 ⊢
        simp only [e59, e60] at hK3 ⊢
        refine want_plain rfl ?_
        go_simp
        exact hK3
      · intro o ho p hp _ z w hC hk K' hK
        cases ho
        obtain rfl : p = 0 := by omega
        have hB := hC.1 rfl
        have e61 : z 61 = .pointer (some ⟨g, o + j * 4, none⟩) := hk 61 (by decide +kernel) rfl
        have g0 := (cat hB hgw).trans q0
        have g1 := (cat hB hgw).trans q1
        have g2 := (cat hB hgw).trans q2
        have g3 := (cat hB hgw).trans q3
        have hK3 := hK ((tmv (.slice s1 sn s2) u.kind u.idx (.slice s3 sm s4))) w (fun s hs => by cases hs; exact rfl) (Below.refl _ _)
        simp only [over_actU8] at hK3 ⊢
        clear hK hk
        unfold actU8 at hK3 ⊢
        simp only [e61] at hK3 ⊢
        refine want_plain rfl ?_
        go_simp
        exact hK3
      · intro o ho p hp _ z w hC hk K' hK
        cases ho
        obtain rfl : p = 0 := by omega
        have hB := hC.1 rfl
        have hK3 := hK (.int .i64 gy) w (fun s hs => by cases hs; exact rfl) (Below.refl _ _)
        simp only [over_actU8] at hK3 ⊢
        clear hK hk
        unfold actU8 at hK3 ⊢
        refine want_plain rfl ?_
        go_simp
        exact hK3
      · intro o ho p hp _ z w hC hk K' hK
        cases ho
        obtain rfl : p = 0 := by omega
        have hB := hC.1 rfl
        have hK3 := hK (.int .i64 fr) w (fun s hs => by cases hs; exact rfl) (Below.refl _ _)
        simp only [over_actU8] at hK3 ⊢
        clear hK hk
        unfold actU8 at hK3 ⊢
        refine want_plain rfl ?_
        go_simp
        exact hK3
      · intro o ho p hp _ z w hC hk K' hK
        cases ho
        obtain rfl : p = 0 := by omega
        have hB := hC.1 rfl
        have hK3 := hK (.int .i64 ((b : Int) + (bn : Int))) w (fun s hs => by cases hs; exact rfl) (Below.refl _ _)
        simp only [over_actU8] at hK3 ⊢
        clear hK hk
        unfold actU8 at hK3 ⊢
        refine want_plain rfl ?_
        go_simp
        exact hK3
      · intro o ho p hp _ z w hC hk K' hK
        cases ho
        obtain rfl : p = 0 := by omega
        have hB := hC.1 rfl
        have e62 : z 62 = (tmv (.slice s1 sn s2) u.kind u.idx (.slice s3 sm s4)) := hk 62 (by decide +kernel) rfl
        have e63 : z 63 = .int .i64 gy := hk 63 (by decide +kernel) rfl
        have e64 : z 64 = .int .i64 fr := hk 64 (by decide +kernel) rfl
        have e65 : z 65 = .int .i64 ((b : Int) + (bn : Int)) := hk 65 (by decide +kernel) rfl
        have hcall := hcall9 w hB
        have hK3 := fun (w2 : World) (e1 : Option Addr) (en e2 : Nat) (e3 : Option Addr) (em e4 : Nat) (hv2 : Holds w2 (fun b => okq b ∧ vk.ownBlock ≠ some b) vt.binds (.slice e1 en e2)) (hv3 : HoldsT w2 (fun b => okq b ∧ vk.ownBlock ≠ some b) vt.args (.slice e3 em e4)) (hb2 : Below w.heap.size w w2) => hK (tmv (.slice e1 en e2) vt.kind vt.idx (.slice e3 em e4)) w2 (fun s hs => by cases hs; exact fun _ => ⟨e1, en, e2, e3, em, e4, rfl, hv2, hv3⟩) hb2
        simp only [over_actU8] at hK3 ⊢
        clear hK hk
        unfold actU8 at hK3 ⊢
        simp only [e62, e63, e64, e65] at hK3 ⊢
        refine want_plain rfl ?_
        go_simp
        refine ⟨trivial, (callsIn_wide.2 hcall).mono ?_⟩
        rintro e w2 ⟨e1, en, e2, e3, em, e4, rfl, hv2, hv3, hb2⟩
        exact hK3 w2 e1 en e2 e3 em e4 hv2 hv3 hb2
      · intro o ho p hp _ z w hC hk K' hK
        cases ho
        obtain rfl : p = 0 := by omega
        have hB := hC.1 rfl
        obtain ⟨e1, en, e2, e3, em, e4, e66, h66, h66t⟩ := hk 66 (by decide +kernel) rfl rfl
        have hK3 := hK (.slice (some ⟨w.heap.size, 0, none⟩) 1 1) (w.alloc (.cells #[.slice e1 en e2, .int .i64 vt.kind, .int .i64 vt.idx, .slice e3 em e4] 27)) (fun s hs => by cases hs; exact fun _ => ⟨w.heap.size, e1, en, e2, e3, em, e4, rfl, Blk.new w 27 _, h66.alloc _, h66t.alloc _⟩) ((Below.refl _ _).alloc (Nat.le_refl _) _)
        simp only [over_actU8] at hK3 ⊢
        clear hK hk
        unfold actU8 at hK3 ⊢
        simp only [e66] at hK3 ⊢
        refine want_plain rfl ?_
        go_simp
        exact hK3
      · intro o ho p hp _ z w hC hk K' hK
        cases ho
        have hK3 := hK (.pointer (some ⟨R, 3, none⟩)) w (fun s hs => by cases hs; exact rfl) (Below.refl _ _)
        simp only [over_actU8] at hK3 ⊢
        clear hK hk
        unfold actU8 at hK3 ⊢
        refine want_plain rfl ?_
        go_simp
        exact hK3
      · intro o ho z w hC hk K' hK
        cases ho
        have hB := hC.1 rfl
        have eS : z 57 = vk := hk 57 (by decide +kernel) rfl
        obtain ⟨g9, e1, en, e2, e3, em, e4, eA, bA, h42, h42t⟩ := hk 67 (by decide +kernel) rfl rfl
        have hmw := hmk.bel hB
        have hrw := hmw.row
        rw [HKK.out] at hrw
        simp only [over_actU8] at hK ⊢
        refine want_plain rfl (append_in rfl (.tmp 57) (.tmp 67) 25 rfl M 27 i0 (.agg #[.slice none 0 0, .int .i64 0, .int .i64 0, .slice none 0 0]) 4 64 Try.underlying25 hi hz0' hz1 hz2 rfl (by decide) vk j (tcells ps) eS hrw ⟨g9, 0, none⟩ 1 1 [.slice e1 en e2, .int .i64 vt.kind, .int .i64 vt.idx, .slice e3 em e4] eA rfl ?_ (by simp [Value.oneCell']) (by omega) (by unfold maxLen; omega) (by omega) (by have := hB.size; omega) ?_)
        · intro i u hi
          have e : ((⟨g9, 0, none⟩ : Addr).add i) = ⟨g9, i, none⟩ := by simp [Addr.add]; omega
          rw [e, bA.cell i]
          simpa using hi
        · intro g cap8 w' hown hgrow hat hlt
          have hq := (⟨ps ++ [⟨.slice e1 en e2, .slice e3 em e4, vt⟩], hmw.snoc (cap := cap8) (x := ⟨.slice e1 en e2, .slice e3 em e4, vt⟩) HKK.out h42 h42t hgrow hat hown, by rw [List.length_append, HKK.out]; rfl, by rw [List.map_append, HP.out]; rfl⟩ : ∃ qs, MkQ w' M okq 27 (.slice (some ⟨g, 0, none⟩) (j + 1) cap8) qs ∧ qs.length = j + 1 ∧ qs.map (·.t) = (ts.map (shT gy fr (b + bn))).take j ++ [vt])
          refine hK _ w' (fun i hs => by cases hs; exact ⟨by omega, ⟨g, cap8, rfl⟩, hq⟩) ⟨by omega, fun _ => ?_, by omega⟩ (fun s h => ?_)
          · exact ⟨hgrow.os.trans hB.os, hgrow.tape.trans hB.tape, hgrow.output.trans hB.output, Nat.le_trans hB.size hgrow.size, fun i hi hn => (hgrow.block i (Nat.lt_of_lt_of_le hi hB.size) hn).trans (hB.block i hi)⟩
          · revert h
            unfold VU8
            split <;> intro h
            · exact h
            · exact h
            · exact h
            · exact h
            · exact h
            · exact h
            · exact h
            · exact h
            · exact h
            · exact h
            · exact fun e0 => absurd e0 (by omega)
            · exact fun e0 => absurd e0 (by omega)
            · exact absurd h.1 (by omega)
            · exact h
            · trivial
      · intro o ho z w hC hk K' hK
        cases ho
        have eP : z 69 = .pointer (some ⟨R, 3, none⟩) := hk 69 (by decide +kernel) rfl
        obtain ⟨_, ⟨g9, c9, eV⟩, hq⟩ := hk 68 (by decide +kernel) rfl
        have hG := hC.2.1 rfl
        have hbR : Blk w R 27 #[.slice x1 bn x2, .int .i64 k, .int .i64 x, vk] := hbR.kept hG (fun e => hnoR e.symm)
        have f0 := hbR.frozen 3
        have p0 := hbR.cell 3
        rw [eV] at hq
        have hK3 := hK undef (w.setCell ⟨R, 3, none⟩ (.slice (some ⟨g9, 0, none⟩) (j + 1) c9)) (fun i hs => by cases hs) ⟨by omega, by omega, fun _ => ⟨_, hbR.set 3 _, (by obtain ⟨ps, h8, h9⟩ := hq; exact ⟨ps, h8.set (by omega) hnR 3 _, h9⟩), w, hG, (Only.refl _ _).set (by simp) 3 _⟩⟩ (fun s h => by
          revert h
          unfold VU8
          split <;> intro h
          · exact h
          · exact h
          · exact h
          · exact h
          · exact h
          · exact h
          · exact h
          · exact h
          · exact h
          · exact h
          · exact fun e0 => absurd e0 (by omega)
          · exact fun e0 => absurd e0 (by omega)
          · exact ⟨by omega, h.2.1, (by obtain ⟨ps, h8, h9⟩ := h.2.2; exact ⟨ps, h8.set (by omega) hnR 3 _, h9⟩)⟩
          · exact h
          · trivial)
        simp only [over_actU8] at hK3 ⊢
        clear hK hk
        unfold actU8 at *
        simp only [eP, eV] at hK3 ⊢
        refine want_plain rfl ?_
        go_simp
        exact hK3
      · intro z w' hC _
        obtain ⟨v', hbR', hq', w1, hG, hO⟩ := hC.2.2 rfl
        rw [over_actU8]
        refine hKs _ _ ?_
        unfold actU8
        have n1 := (hb1.kept hG (fun e => hn1 e.symm)).only hO (by simp; omega)
        have n2 := (hb2.kept hG (fun e => hn2 e.symm)).only hO (by simp; omega)
        have hbl' : Below N w w' := (hbl.grown hG (by omega) (fun i hi => by have := (hmk.lt i hi).1; omega)).trans (hO.below (by have := hG.size; omega) (fun i hi => by simp at hi; omega))
        have hM' : M ≤ w'.heap.size := by have h8 := hG.size; have h9 := hO.size; omega
        obtain ⟨qs, hm', _, hp'⟩ := hq'
        rw [HPX.out] at hp'
        go_wp2
        exact ⟨⟨j + 1, v', qs, by omega, by go_num, hp', n1, n2, hbR', hM', hm', hbl'⟩, by simp [intOf]; omega⟩
    · obtain rfl : j = ts.length := by omega
      have t0 := hbR.cell 3
      have x0 := hbR.cell 0
      have x9 := hbR.cell 1
      have x8 := hbR.cell 2
      have s0 := hb2.cell 0
      have s1 := hb2.cell 1
      have s2 := hb2.cell 2
      have s3 := hb2.cell 3
      have f0 := hb2.frozen 0
      have f1 := hb2.frozen 1
      have f2 := hb2.frozen 2
      have f3 := hb2.frozen 3
      have HP3 : Hid (ps.map (·.t) = ts.map (shT gy fr (b + bn))) := by show _ = _; rw [HP.out, ← List.length_map (f := shT gy fr (b + bn)), List.take_length]
      have hh4 := hmk.holds
      obtain ⟨ra, rc, rfl, _⟩ := hh4.shape
      generalize (ps.map (·.t)).length = rn at *
      rw [HP3.out] at hh4
      have c0 := (((hb2.set 0 (.slice x1 bn x2)).set 1 (.int .i64 k)).set 2 (.int .i64 x)).set 3 (.slice ra rn rc)
      have hh5 := holdsT_set4 (g := N + 1) (ok' := fun b => ok b ∨ N ≤ b) hh4 (fun b _ h => by
        rw [HOK.out] at h
        rcases h with (h | h) | h
        · exact ⟨by omega, .inl h.1⟩
        · exact ⟨by omega, .inr (by omega)⟩
        · exact ⟨by omega, .inr (by omega)⟩) (.slice x1 bn x2) (.int .i64 k) (.int .i64 x) (.slice ra rn rc)
      have hh6 := holds_set4 (g := N + 1) (ok' := fun b => ok b ∨ N ≤ b) (hb9.bel (by rw [HN.out]; exact hbl)) (fun b _ h => ⟨by omega, .inl h.1⟩) (.slice x1 bn x2) (.int .i64 k) (.int .i64 x) (.slice ra rn rc)
      have hB5 : Below N w ((((wr.setCell ⟨N + 1, 0, none⟩ (.slice x1 bn x2)).setCell ⟨N + 1, 1, none⟩ (.int .i64 k)).setCell ⟨N + 1, 2, none⟩ (.int .i64 x)).setCell ⟨N + 1, 3, none⟩ (.slice ra rn rc)) := bset (bset (bset (bset hbl (by omega) _) (by omega) _) (by omega) _) (by omega) _
      clear hmk hpl hh4
      go_wp2
      generalize (((wr.setCell ⟨N + 1, 0, none⟩ (.slice x1 bn x2)).setCell ⟨N + 1, 1, none⟩ (.int .i64 k)).setCell ⟨N + 1, 2, none⟩ (.int .i64 x)).setCell ⟨N + 1, 3, none⟩ (.slice ra rn rc) = W5 at *
      have d0 : W5.cell? ⟨N + 1, 0, none⟩ = some (.slice x1 bn x2) := c0.cell 0
      have d1 : W5.cell? ⟨N + 1, 1, none⟩ = some (.int .i64 k) := c0.cell 1
      have d2 : W5.cell? ⟨N + 1, 2, none⟩ = some (.int .i64 x) := c0.cell 2
      have d3 : W5.cell? ⟨N + 1, 3, none⟩ = some (.slice ra rn rc) := c0.cell 3
      exact bodyPost_ret (v := tmv (.slice x1 bn x2) k x (.slice ra rn rc)) (by simp [results, Try.results114, go_sem, d0, d1, d2, d3]) rfl ⟨_, _, rfl, hh6, hh5, hB5⟩

theorem up_calls (gy fr : Int) (t : Tm) : UpAt gy fr t := by
  induction t using Tm.ind with
  | h t ih => exact up_one gy fr t ih

end Go.Proofs.Ytheokboggjnenaa
