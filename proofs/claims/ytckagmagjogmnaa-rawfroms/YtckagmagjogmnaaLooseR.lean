/-
  The contracts of raw's within, loose and Loose, and of the document's Loose.
-/
import Derived.Test.YtckagmagjogmnaaSizeR
import Derived.Deep.DeepCutAuto
namespace Go.Proofs.Ytckagmagjogmnaa
open Go Go.RowKit

set_option maxRecDepth 100000 in
theorem within_calls (k b i : Int) (x1 : Option Addr) (n1 x2 : Nat) (x3 : Option Addr) (n2 x4 : Nat) (m : Nat) (hm : m ≤ 2000000) (w : World) :
    Calls Try.prog 69 #[rwv k (.slice x1 n1 x2) b i (.slice x3 n2 x4), .int .i64 (m : Int)] w fun e w' => e = .returned (.int .i64 ((inR k m : Nat) : Int)) ∧ Below w.heap.size w w' := by
  obtain ⟨N, hN⟩ : ∃ N, w.heap.size = N := ⟨_, rfl⟩
  rw [hN]
  have bl0 : Below N w (w.alloc (.cells #[.int .i64 k, .slice x1 n1 x2, .int .i64 b, .int .i64 i, .slice x3 n2 x4] 35)) := (Below.refl N w).alloc (by omega) _
  by_cases h : k = 3
  · subst h
    have e : Hid (inR 3 m = m + 1) := rfl
    generalize inR 3 m = y at *
    have hw : IntKind.i64.wrap ((m : Int) + 1) = m + 1 := by rw [IntKind.wrap_i64]; omega
    go_enter Try.func69, Try.ntmps69
    go_wp2
    go_ret
    exact ⟨ret_int (by rw [e.out]; omega), bl0⟩
  · have e : Hid (inR k m = m) := by show (if k = 3 then m + 1 else m) = m; rw [if_neg h]
    have z : (k == 3) = false := by simp [h]
    generalize inR k m = y at *
    clear h
    go_enter Try.func69, Try.ntmps69
    go_wp2
    go_ret
    exact ⟨ret_int (by rw [e.out]), bl0⟩

theorem fits_sub {i b : Int} (h : b ≤ i) (hb : 0 ≤ b) (hi : i ≤ 9223372036854775807) : IntKind.i64.wrap (i - b) = i - b := by rw [IntKind.wrap_i64]; omega

mutual
/-- all indexes are numbers of 64 bits -/
def Rw.rng : Rw → Prop
  | .mk k _ i l => (-9223372036854775808 ≤ k ∧ k ≤ 9223372036854775807) ∧ (-9223372036854775808 ≤ i ∧ i ≤ 9223372036854775807) ∧ rngR l
def rngR : List Rw → Prop
  | [] => True
  | t :: r => t.rng ∧ rngR r
end
theorem Rw.rng_eq (t : Rw) : t.rng = ((-9223372036854775808 ≤ t.kind ∧ t.kind ≤ 9223372036854775807) ∧ (-9223372036854775808 ≤ t.idx ∧ t.idx ≤ 9223372036854775807) ∧ rngR t.kids) := by cases t; rfl
theorem rngR_mem {l : List Rw} (h : rngR l) {t : Rw} (ht : t ∈ l) : t.rng := by
  induction l with
  | nil => cases ht
  | cons u l ih =>
    rcases List.mem_cons.1 ht with rfl | ht
    · exact h.1
    · exact ih h.2 ht
theorem rngR_iff (l : List Rw) : rngR l ↔ ∀ t ∈ l, t.rng := by
  induction l with
  | nil => simp [rngR]
  | cons u l ih => simp [rngR, ih]

set_option maxRecDepth 100000 in
set_option maxHeartbeats 1600000 in
theorem loose_calls (t : Rw) : ∀ (m : Nat) (ok : Nat → Prop) (sb sl : Value) (w : World), Holds w ok t.ty.args sb → HoldsR w ok t.kids sl → t.size ≤ 1000000 → m + t.size ≤ 1000000 → t.rng →
    Calls Try.prog 45 #[rwv t.kind sb t.ty.base t.idx sl, .int .i64 (m : Int)] w fun e w' => e = .returned (.int .i64 (t.loose m : Int)) ∧ Below w.heap.size w w' := by
  induction t using Rw.ind with
  | h t ih =>
  intro m ok sb sl w hb ha hsz hm hrg
  rw [t.rng_eq] at hrg
  obtain ⟨hrk, hri, hrr⟩ := hrg
  obtain ⟨ts, hts⟩ : ∃ ts, t.kids = ts := ⟨_, rfl⟩
  have hsz2 := t.size_eq
  have hlo := t.loose_eq m
  rw [hts] at ha ih hsz2 hlo hrr
  obtain ⟨x1, x2, rfl, _⟩ := hb.shape
  generalize t.ty.args.length = bn at *
  obtain ⟨a, cap, rfl, hcap, hat⟩ := ha.shape
  have HA : Hid _ := hat
  have HIH : Hid _ := ih
  have HLO : Hid _ := hlo
  have HSZ : Hid _ := hsz2
  have hln := sizeR_length ts
  have hkl : ts.length ≤ 1000000 := by omega
  obtain ⟨N, hN⟩ : ∃ N, w.heap.size = N := ⟨_, rfl⟩
  have HN : Hid (w.heap.size = N) := hN
  obtain ⟨W, hW⟩ : ∃ W, w.alloc (.cells #[.int .i64 t.kind, .slice x1 bn x2, .int .i64 t.ty.base, .int .i64 t.idx, .slice a ts.length cap] 35) = W := ⟨_, rfl⟩
  have b0 : Blk W N 35 #[.int .i64 t.kind, .slice x1 bn x2, .int .i64 t.ty.base, .int .i64 t.idx, .slice a ts.length cap] := by rw [← hW]; exact Blk.new' w N 35 _ hN
  have bl0 : Below N w W := by rw [← hW]; exact (Below.refl N w).alloc (by omega) _
  have HW : Hid _ := hW
  have c0 := b0.cell 0
  have c1 := b0.cell 1
  have c2 := b0.cell 2
  have c3 := b0.cell 3
  have c4 := b0.cell 4
  have l0 := b0.lt
  obtain ⟨K, hK⟩ : ∃ K, t.kind = K := ⟨_, rfl⟩
  obtain ⟨I, hI⟩ : ∃ I, t.idx = I := ⟨_, rfl⟩
  rw [hK, hI] at HLO HW b0
  rw [hK] at c0 hrk
  rw [hI] at c3 hri
  rw [hK, hI, hN]
  clear hW hat ha hb ih hts hsz2 hlo hln hK hI
  by_cases h0 : K = 0
  · subst h0
    have HL : Hid (t.loose m = farR I m) := HLO.out
    clear HLO
    by_cases hlt : I < (m : Int)
    · have z : decide (I < (m : Int)) = true := by simp; omega
      have HZ : Hid (t.loose m = 0) := by show _ = _; rw [HL.out]; unfold farR; rw [if_pos hlt]
      generalize t.loose m = y at *
      go_enter Try.func45, Try.ntmps45
      go_upto_region 1 with fail
      rw [HW.out]
      clear HW
      go_wp2
      go_ret
      exact ⟨ret_int (by rw [HZ.out]; rfl), bl0⟩
    · have z : decide (I < (m : Int)) = false := by simp; omega
      have HZ : Hid ((t.loose m : Int) = min (I - m) 1000 + 1) := by show _ = _; rw [HL.out]; unfold farR; rw [if_neg hlt]; omega
      have hw := fits_sub (i := I) (b := (m : Int)) (by omega) (by omega) (by omega)
      generalize t.loose m = y at *
      go_enter Try.func45, Try.ntmps45
      go_upto_region 1 with fail
      rw [HW.out]
      clear HW
      go_wp2
      all_goals
        go_ret
        exact ⟨ret_int (by rw [HZ.out]; go_num), bl0⟩
  · have z0 : (K == 0) = false := by simp [h0]
    have HL : Hid (t.loose m = looseR (inR K m) ts) := by show _ = _; rw [HLO.out, if_neg h0]
    have hcall := within_calls K t.ty.base I x1 bn x2 a ts.length cap m (by omega) W
    have hin : inR K m ≤ m + 1 := by unfold inR; split <;> omega
    generalize inR K m = M at *
    clear HLO h0
    go_enter Try.func45, Try.ntmps45
    go_upto_region 1 with fail
    rw [HW.out]
    clear HW
    go_wp2_with fail
    refine hcall.mono ?_
    rintro ee w1 ⟨rfl, hb1⟩
    have b1 := b0.below hb1 b0.lt
    have B1 : Below N w w1 := bl0.trans (hb1.mono (by omega))
    clear hcall c0 c1 c2 c3 c4 b0 bl0 hb1
    have c4 := b1.cell 4
    go_wp2_with fail
    clear c4 b1
    go_loopw [5, 27] (fun y i wr => ∃ k : Nat, k ≤ ts.length ∧ i = .int .i64 k ∧ y = .int .i64 ((looseR M (ts.take k) : Nat) : Int) ∧ looseR M (ts.take k) ≤ 1001 ∧ Below N w wr)
      (fun _ i _ => ts.length - (intOf i).toNat)
    case atStart => exact ⟨0, Nat.zero_le _, rfl, by simp [looseR], by simp [looseR], B1⟩
    case round =>
      clear B1
      obtain ⟨k, hk, rfl, rfl, hle, hbl⟩ := hrel
      by_cases hlt : k < ts.length
      · obtain ⟨u, hu⟩ : ∃ u, ts[k]? = some u := ⟨_, List.getElem?_eq_getElem hlt⟩
        obtain ⟨g, o, s, r, rfl, _, hg, a0, a1, a2, a3, a4, hs, hr⟩ := HA.out k u hu
        rw [HN.out] at hg
        obtain ⟨sa, sc, rfl, _⟩ := hs.shape
        obtain ⟨sd, se, rfl, _⟩ := hr.shape
        have q0 := (cat hbl hg).trans a0
        have q1 := (cat hbl hg).trans a1
        have q2 := (cat hbl hg).trans a2
        have q3 := (cat hbl hg).trans a3
        have q4 := (cat hbl hg).trans a4
        have hm' := List.mem_of_getElem? hu
        have hus := rsize_mem hm'
        have hul := u.loose_le M
        have hS : Hid (looseR M (ts.take (k + 1)) = max (looseR M (ts.take k)) (u.loose M)) := looseR_take hu
        generalize u.ty.args.length = n1 at *
        generalize u.kids.length = n2 at *
        generalize looseR M (ts.take k) = y at *
        have y1 : (0 : Int) ≤ (k : Int) := by omega
        have y2 : (k : Int) < (ts.length : Int) := by omega
        have hcall := HIH.out u hm' M ok _ _ (wr.alloc (.cells #[.int .i64 u.kind, .slice sa n1 sc, .int .i64 u.ty.base, .int .i64 u.idx, .slice sd n2 se] 35)) ((hs.bel (by rw [HN.out]; exact hbl)).alloc _) ((hr.bel (by rw [HN.out]; exact hbl)).alloc _) (by have := HSZ.out; omega) (by have := HSZ.out; omega) (rngR_mem hrr hm')
        have hbx := hbl.alloc (by have := hbl.size; rw [HN.out] at this; omega) (.cells #[.int .i64 u.kind, .slice sa n1 sc, .int .i64 u.ty.base, .int .i64 u.idx, .slice sd n2 se] 35)
        have hsx : N ≤ (wr.alloc (.cells #[.int .i64 u.kind, .slice sa n1 sc, .int .i64 u.ty.base, .int .i64 u.idx, .slice sd n2 se] 35)).heap.size := by have := hbx.size; rw [HN.out] at this; omega
        generalize u.loose M = ul at *
        clear a0 a1 a2 a3 a4 hu hs hr
        go_wp2_with (go_at_call 45; refine hcall.mono ?_; rintro e w3 ⟨rfl, hb3⟩)
        all_goals
          go_roundw
          case rel => exact ⟨k + 1, by omega, by go_num, by rw [hS.out]; go_num, by rw [hS.out]; omega, hbx.trans (hb3.mono hsx)⟩
          case measure => simp [intOf]; omega
      · obtain rfl : k = ts.length := by omega
        rw [List.take_length]
        go_wp2
        go_ret
        exact ⟨ret_int (by rw [HL.out]), hbl⟩

set_option maxRecDepth 100000 in
theorem LooseR_calls (t : Rw) (ok : Nat → Prop) (sb sl : Value) (w : World) (hb : Holds w ok t.ty.args sb) (ha : HoldsR w ok t.kids sl) (hsz : t.size ≤ 1000000) (hrg : t.rng) :
    Calls Try.prog 15 #[rwv t.kind sb t.ty.base t.idx sl] w fun e w' => e = .returned (.int .i64 (t.loose 0 : Int)) ∧ Below w.heap.size w w' := by
  obtain ⟨N, hN⟩ : ∃ N, w.heap.size = N := ⟨_, rfl⟩
  rw [hN]
  obtain ⟨x1, x2, rfl, _⟩ := hb.shape
  obtain ⟨x3, x4, rfl, _⟩ := ha.shape
  generalize t.ty.args.length = n1 at *
  generalize t.kids.length = n2 at *
  obtain ⟨W, hW⟩ : ∃ W, w.alloc (.cells #[.int .i64 t.kind, .slice x1 n1 x2, .int .i64 t.ty.base, .int .i64 t.idx, .slice x3 n2 x4] 35) = W := ⟨_, rfl⟩
  have b0 : Blk W N 35 #[.int .i64 t.kind, .slice x1 n1 x2, .int .i64 t.ty.base, .int .i64 t.idx, .slice x3 n2 x4] := by rw [← hW]; exact Blk.new' w N 35 _ hN
  have bl0 : Below N w W := by rw [← hW]; exact (Below.refl N w).alloc (by omega) _
  have hcall := loose_calls t 0 ok _ _ W (hb.bel (hN ▸ bl0)) (ha.bel (hN ▸ bl0)) hsz (by omega) hrg
  have c0 := b0.cell 0
  have c1 := b0.cell 1
  have c2 := b0.cell 2
  have c3 := b0.cell 3
  have c4 := b0.cell 4
  have l1 := b0.lt
  have HW : Hid _ := hW
  generalize t.loose 0 = rt at *
  clear hW hb ha
  go_enter Try.func15, Try.ntmps15
  go_upto_region 1 with fail
  rw [HW.out]
  clear HW
  go_wp2_with fail
  refine hcall.mono ?_
  rintro e w1 ⟨rfl, hb1⟩
  have B1 : Below N w w1 := bl0.trans (hb1.mono (by omega))
  go_wp2
  go_ret
  exact ⟨rfl, B1⟩

end Go.Proofs.Ytckagmagjogmnaa
