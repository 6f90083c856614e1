/-
  Wld: several texts in one file: TypesT, Wld.
-/
import Derived.Test.YtckagmagjogmnaaTo
import Derived.Test.YtckagmagjogmnaaHdTy
import Derived.Test.YtckagmagjogmnaaFew
import Derived.Test.YtckagmagjogmnaaToR
import Derived.Deep.RegionHeld3
import Derived.Lib.QuietBelow
namespace Go.Proofs.Ytckagmagjogmnaa
open Go Go.RowKit

set_option maxRecDepth 100000 in
set_option maxHeartbeats 1600000 in
theorem TypesT_calls (ts : List Ty) (ok : Nat → Prop) (sl : Value) (w : World) (hh : Holds w ok ts sl) (hn : sizeL ts ≤ 1000000) :
    Calls Try.prog 22 #[sl] w fun e w' => ∃ v, e = .returned v ∧ Holds w' (fun b => w.heap.size ≤ b) ts v ∧ Below w.heap.size w w' := by
  obtain ⟨i0, hi, hz0, hz1, hz2⟩ := info_parts info29
  have hlen := sizeL_length ts
  have HZ : Hid (∀ t ∈ ts, t.size ≤ 1000000) := fun t ht => by have := size_mem ht; omega
  obtain ⟨a, cap, rfl, hcap, hat⟩ := hh.shape
  have HA : Hid _ := hat
  clear hat hh
  have hl2 : ts.length ≤ 1000000 := by omega
  clear hlen hn
  obtain ⟨N, hN⟩ : ∃ N, w.heap.size = N := ⟨_, rfl⟩
  rw [hN]
  go_enter Try.func22, Try.ntmps22
  go_wp2
  go_loopw [3, 4] (fun o i wr => ∃ (k : Nat) (vk : Value) (ps : List (Value × Ty)), k ≤ ts.length ∧ i = .int .i64 k ∧ o = vk ∧ Hid (ps.map (·.2) = ts.take k) ∧ Mk wr N 32 vk ps ∧ Below N w wr)
    (fun _ i _ => ts.length - (intOf i).toNat)
  case atStart => exact ⟨0, _, [], Nat.zero_le _, rfl, rfl, rfl, Mk.nil _ _ _, Below.refl _ _⟩
  case round =>
    obtain ⟨k, vk, ps, hk, rfl, rfl, HP, hmk, hbl⟩ := hrel
    have hpl : ps.length = k := by have := congrArg List.length HP.out; simp at this; omega
    have HKK : Hid (ps.length = k) := hpl
    clear hpl
    have hNw : N ≤ wr.heap.size := by have := hbl.size; omega
    by_cases hlt : k < ts.length
    · obtain ⟨u, hu⟩ : ∃ u, ts[k]? = some u := ⟨_, List.getElem?_eq_getElem hlt⟩
      obtain ⟨g, o, s, rfl, _, hg, a0, a1, hs⟩ := HA.out k u hu
      rw [hN] at hg
      have q0 := (cat hbl hg).trans a0
      have q1 := (cat hbl hg).trans a1
      have hm := List.mem_of_getElem? hu
      have hus := HZ.out u hm
      have y1 : (0 : Int) ≤ (k : Int) := by omega
      have y2 : (k : Int) < (ts.length : Int) := by omega
      have HP2 : Hid (ps.map (·.2) ++ [u] = ts.take (k + 1)) := by show _ = _; rw [HP.out, List.take_add_one, hu]; rfl
      have hs2 : Holds wr ok u.args s := hs.bel (by rw [hN]; exact hbl)
      have HL : Hid (∀ b, u3.ownBlock = some b → b < wr.heap.size) := fun b hb => (hmk.lt b hb).2
      clear a0 a1 hu hs HP
      go_wp2_with (first
        | (go_at_call 41; refine (To_calls u ok s _ hs2 hus).mono ?_; rintro e w2 ⟨v2, rfl, hv2, hbb⟩; obtain ⟨sa, sc, rfl, _⟩ := hv2.shape; generalize u.args.length = sn at *; have hmk2 := hmk.bel hbb; have hwz : wr.heap.size ≤ w2.heap.size := hbb.size)
        | (at_builtin; refine wpList_append_lies _ rfl _ _ 30 rfl N 32 i0 _ 2 32 Try.underlying30 hi hz0 hz1 hz2 rfl (by decide) _ k (pcells ps) rfl (by have := hmk2.row.alloc (.cells #[.slice sa sn sc, .int .i64 u.base] 32); rwa [HKK.out] at this) ⟨w2.heap.size, 0, none⟩ 1 1 [.slice sa sn sc, .int .i64 u.base] rfl rfl (cell_two_new _ _ _ _) (by simp [Value.oneCell']) (by omega) (by unfold maxLen; omega) (by omega) (by simp; omega) _ rfl ?_; intro g2 cap2 w3 hown3 hgrow3 hat3 hlt3))
      have hB2 : Below N w w2 := hbl.trans (hbb.mono hNw)
      have hB3 : Below N w w3 := (hB2.alloc (by omega) _).grown hgrow3 (by simp; omega) (fun j hj => (hmk2.lt j hj).1)
      have hmk3 := hmk2.snoc (cap := cap2) hv2 hNw HL.out hgrow3 hat3 (by rw [HKK.out]; exact hown3)
      rw [HKK.out] at hmk3
      exact ⟨⟨k + 1, _, ps ++ [(.slice sa sn sc, u)], by omega, by go_num, rfl, by show _ = _; rw [List.map_append]; exact HP2.out, hmk3, hB3⟩, by simp [intOf]; omega⟩
    · obtain rfl : k = ts.length := by omega
      have hh4 := hmk.holds
      rw [HP.out, List.take_length] at hh4
      go_wp2
      go_ret
      exact ⟨_, rfl, hh4, hbl⟩

end Go.Proofs.Ytckagmagjogmnaa

namespace Go.Proofs.Ytckagmagjogmnaa
open Go Go.RowKit Go.Sort

set_option maxRecDepth 100000 in
set_option maxHeartbeats 1600000 in
theorem World_calls (cs ms : List Ty) (bs : Int) (cv mv : Value) (w : World) (hc : Holds w okT cs cv) (hm : Holds w okT ms mv) (sc : sizeL cs ≤ 1000000) (sm : sizeL ms ≤ 1000000) :
    Calls Try.prog 26 #[wov bs cv mv] w fun e w' => ∃ a n c a' n' c', e = .returned (wov bs (.slice a n c) (.slice a' n' c')) ∧ Holds w' (fun b => w.heap.size ≤ b) cs (.slice a n c) ∧ Holds w' (fun b => w.heap.size ≤ b) ms (.slice a' n' c') ∧ Below w.heap.size w w' := by
  obtain ⟨c1, c2, rfl, _⟩ := hc.shape
  obtain ⟨m1, m2, rfl, _⟩ := hm.shape
  obtain ⟨N, hN⟩ : ∃ N, w.heap.size = N := ⟨_, rfl⟩
  rw [hN]
  obtain ⟨W0, hW0⟩ : ∃ W0, (w.alloc (.cells #[.int .i64 bs, .slice c1 cs.length c2, .slice m1 ms.length m2] 47)).alloc (.cells #[.int .i64 0, .slice none 0 0, .slice none 0 0] 57) = W0 := ⟨_, rfl⟩
  have b0 : Blk W0 N 47 #[.int .i64 bs, .slice c1 cs.length c2, .slice m1 ms.length m2] := by rw [← hW0]; exact (Blk.new' w N 47 _ hN).alloc _
  have b1 : Blk W0 (N + 1) 57 #[.int .i64 0, .slice none 0 0, .slice none 0 0] := by rw [← hW0]; exact Blk.new' _ (N + 1) 57 _ (by simp [hN])
  have bl0 : Below N w W0 := by rw [← hW0]; exact ((Below.refl N w).alloc (by omega) _).alloc (by simp; omega) _
  have hz0 : W0.heap.size = N + 1 + 1 := by rw [← hW0]; simp [hN]
  have HW : Hid _ := hW0
  have c0 := b0.cell 0
  have c3 := b0.cell 1
  have c4 := b0.cell 2
  have hK : ∀ v, Cur W0 v → v.cell? ⟨N, 0, none⟩ = some (.int .i64 bs) ∧ v.cell? ⟨N, 1, none⟩ = some (.slice c1 cs.length c2) ∧ v.cell? ⟨N, 2, none⟩ = some (.slice m1 ms.length m2) := fun v hv => ⟨hv.cell c0, hv.cell c3, hv.cell c4⟩
  have kc : ∀ cur, Cur W0 cur → Calls Try.prog 22 #[.slice c1 cs.length c2] cur fun e w' => ∃ va vn vc, e = .returned (.slice va vn vc) ∧ Holds w' (fun b => N + 1 + 1 ≤ b) cs (.slice va vn vc) ∧ Below cur.heap.size cur w' ∧ Cur W0 w' := fun cur hcur =>
    (TypesT_calls cs okT _ cur ((hc.bel (hN ▸ bl0)).bel hcur) sc).mono fun e w' ⟨v, h1, h2, h3⟩ => by
      obtain ⟨va, vc, rfl, _⟩ := h2.shape
      have := Below.size hcur
      exact ⟨va, _, vc, h1, h2.mono fun b _ ho => by omega, h3, hcur.then h3⟩
  have km : ∀ cur, Cur W0 cur → Calls Try.prog 22 #[.slice m1 ms.length m2] cur fun e w' => ∃ va vn vc, e = .returned (.slice va vn vc) ∧ Holds w' (fun b => N + 1 + 1 ≤ b) ms (.slice va vn vc) ∧ Below cur.heap.size cur w' ∧ Cur W0 w' := fun cur hcur =>
    (TypesT_calls ms okT _ cur ((hm.bel (hN ▸ bl0)).bel hcur) sm).mono fun e w' ⟨v, h1, h2, h3⟩ => by
      obtain ⟨va, vc, rfl, _⟩ := h2.shape
      have := Below.size hcur
      exact ⟨va, _, vc, h1, h2.mono fun b _ ho => by omega, h3, hcur.then h3⟩
  have hcur := Cur.refl W0
  clear hW0 hc hm c0 c3 c4 b0
  go_enter Try.func26, Try.ntmps26
  go_upto_region 1 with fail
  rw [HW.out]
  clear HW
  go_region_held3 (fun v => v.cell? ⟨N, 0, none⟩ = some (.int .i64 bs) ∧ v.cell? ⟨N, 1, none⟩ = some (.slice c1 cs.length c2) ∧ v.cell? ⟨N, 2, none⟩ = some (.slice m1 ms.length m2))
    (first | with_reducible exact hK _ (by first | with_reducible assumption | (with_reducible refine Cur.drew ?_; assumption) | (with_reducible refine Cur.alloc ?_ _; assumption) | (with_reducible refine Cur.drew (Cur.alloc ?_ _); assumption) | (with_reducible refine Cur.alloc (Cur.drew ?_) _; assumption) | (with_reducible refine Cur.alloc (Cur.alloc ?_ _) _; assumption) | (with_reducible refine Cur.alloc (Cur.alloc (Cur.drew ?_) _) _; assumption) | (with_reducible refine Cur.alloc (Cur.drew (Cur.alloc ?_ _)) _; assumption) | (with_reducible refine Cur.set (Cur.set ?_ hzz _ _) hzz _ _; assumption) | (with_reducible refine Cur.set (Cur.set ?_ hzy _ _) hzy _ _; assumption)) | with_reducible exact hS9)
    (first
      | (go_at_call 22; have _ := hv1; refine (km _ (by first | with_reducible assumption | (with_reducible refine Cur.drew ?_; assumption) | (with_reducible refine Cur.alloc ?_ _; assumption) | (with_reducible refine Cur.drew (Cur.alloc ?_ _); assumption) | (with_reducible refine Cur.alloc (Cur.drew ?_) _; assumption) | (with_reducible refine Cur.alloc (Cur.alloc ?_ _) _; assumption) | (with_reducible refine Cur.alloc (Cur.alloc (Cur.drew ?_) _) _; assumption) | (with_reducible refine Cur.alloc (Cur.drew (Cur.alloc ?_ _)) _; assumption) | (with_reducible refine Cur.set (Cur.set ?_ hzz _ _) hzz _ _; assumption) | (with_reducible refine Cur.set (Cur.set ?_ hzy _ _) hzy _ _; assumption))).mono ?_; rintro e y2 ⟨ma, mn, mc, rfl, hv2, hb2, hc2⟩; have bR := b1.below hc2 b1.lt; have r0 := bR.cell 0; have r1 := bR.cell 1; have r2 := bR.cell 2; have g0 := bR.frozen 0; have g1 := bR.frozen 1; have g2 := bR.frozen 2; have hS9 : (((y2.setCell ⟨N + 1, 0, none⟩ (.int .i64 bs)).setCell ⟨N + 1, 1, none⟩ (.slice va vn vc)).setCell ⟨N + 1, 2, none⟩ (.slice ma mn mc)).cell? ⟨N, 0, none⟩ = some (.int .i64 bs) ∧ (((y2.setCell ⟨N + 1, 0, none⟩ (.int .i64 bs)).setCell ⟨N + 1, 1, none⟩ (.slice va vn vc)).setCell ⟨N + 1, 2, none⟩ (.slice ma mn mc)).cell? ⟨N, 1, none⟩ = some (.slice c1 cs.length c2) ∧ (((y2.setCell ⟨N + 1, 0, none⟩ (.int .i64 bs)).setCell ⟨N + 1, 1, none⟩ (.slice va vn vc)).setCell ⟨N + 1, 2, none⟩ (.slice ma mn mc)).cell? ⟨N, 2, none⟩ = some (.slice m1 ms.length m2) := (by
          obtain ⟨h0, h1, h2⟩ := hK y2 hc2
          have hb9 := bset (bset (bset (Below.refl (N + 1) y2) (Nat.le_refl _) (.int .i64 bs) (i := 0)) (Nat.le_refl _) (.slice va vn vc) (i := 1)) (Nat.le_refl _) (.slice ma mn mc) (i := 2)
          exact ⟨(hb9.cell (p := ⟨N, 0, none⟩) (Nat.lt_succ_self N)).trans h0, (hb9.cell (p := ⟨N, 1, none⟩) (Nat.lt_succ_self N)).trans h1, (hb9.cell (p := ⟨N, 2, none⟩) (Nat.lt_succ_self N)).trans h2⟩))
      | (go_at_call 22; refine (kc _ (by first | with_reducible assumption | (with_reducible refine Cur.drew ?_; assumption) | (with_reducible refine Cur.alloc ?_ _; assumption) | (with_reducible refine Cur.drew (Cur.alloc ?_ _); assumption) | (with_reducible refine Cur.alloc (Cur.drew ?_) _; assumption) | (with_reducible refine Cur.alloc (Cur.alloc ?_ _) _; assumption) | (with_reducible refine Cur.alloc (Cur.alloc (Cur.drew ?_) _) _; assumption) | (with_reducible refine Cur.alloc (Cur.drew (Cur.alloc ?_ _)) _; assumption) | (with_reducible refine Cur.set (Cur.set ?_ hzz _ _) hzz _ _; assumption) | (with_reducible refine Cur.set (Cur.set ?_ hzy _ _) hzy _ _; assumption))).mono ?_; rintro e y1 ⟨va, vn, vc, rfl, hv1, hb1, hc1⟩))
  have hW2 := hv1.bel hb2
  have b9 := ((bR.set 0 (.int .i64 bs)).set 1 (.slice va vn vc)).set 2 (.slice ma mn mc)
  have hk9 : ∀ b, b ≠ N + 1 → (((y2.setCell ⟨N + 1, 0, none⟩ (.int .i64 bs)).setCell ⟨N + 1, 1, none⟩ (.slice va vn vc)).setCell ⟨N + 1, 2, none⟩ (.slice ma mn mc)).heap[b]? = y2.heap[b]? := fun b hb =>
    (Below.heap_setCell _ ⟨N + 1, 2, none⟩ _ b hb).trans ((Below.heap_setCell _ ⟨N + 1, 1, none⟩ _ b hb).trans (Below.heap_setCell _ ⟨N + 1, 0, none⟩ _ b hb))
  have hH1 := hW2.keep (w' := ((y2.setCell ⟨N + 1, 0, none⟩ (.int .i64 bs)).setCell ⟨N + 1, 1, none⟩ (.slice va vn vc)).setCell ⟨N + 1, 2, none⟩ (.slice ma mn mc)) (ok' := fun b => N ≤ b) fun b _ ho => ⟨hk9 b (by omega), by omega⟩
  have hH2 := hv2.keep (w' := ((y2.setCell ⟨N + 1, 0, none⟩ (.int .i64 bs)).setCell ⟨N + 1, 1, none⟩ (.slice va vn vc)).setCell ⟨N + 1, 2, none⟩ (.slice ma mn mc)) (ok' := fun b => N ≤ b) fun b _ ho => ⟨hk9 b (by omega), by omega⟩
  have hB9 : Below N w (((y2.setCell ⟨N + 1, 0, none⟩ (.int .i64 bs)).setCell ⟨N + 1, 1, none⟩ (.slice va vn vc)).setCell ⟨N + 1, 2, none⟩ (.slice ma mn mc)) := bset (bset (bset (bl0.trans (hc2.mono (by omega))) (by omega) _) (by omega) _) (by omega) _
  clear hS9 hk9 hv1 hv2 hW2 hb1 hb2 hc1 hc2 r0 r1 r2 g0 g1 g2 bR
  generalize ((y2.setCell ⟨N + 1, 0, none⟩ (.int .i64 bs)).setCell ⟨N + 1, 1, none⟩ (.slice va vn vc)).setCell ⟨N + 1, 2, none⟩ (.slice ma mn mc) = W5 at *
  have d0 : W5.cell? ⟨N + 1, 0, none⟩ = some (.int .i64 bs) := b9.cell 0
  have d1 : W5.cell? ⟨N + 1, 1, none⟩ = some (.slice va vn vc) := b9.cell 1
  have d2 : W5.cell? ⟨N + 1, 2, none⟩ = some (.slice ma mn mc) := b9.cell 2
  go_wp2
  exact bodyPost_ret (v := wov bs (.slice va vn vc) (.slice ma mn mc)) (by simp [results, Try.results26, go_sem, d0, d1, d2]) rfl ⟨va, vn, vc, ma, mn, mc, rfl, hH1, hH2, hB9⟩

def AllUpY (p : Ty → Bool) (ts : List Ty) (k : Nat) : Prop := ∀ i t, i < k → ts[i]? = some t → p t = true
theorem AllUpY.step {p : Ty → Bool} {ts : List Ty} {k : Nat} {u : Ty} (h : AllUpY p ts k) (hu : ts[k]? = some u) (hp : p u = true) : AllUpY p ts (k + 1) := by
  intro i t hi ht
  rcases Nat.lt_or_ge i k with hl | hl
  · exact h i t hl ht
  · obtain rfl : i = k := by omega
    rw [hu] at ht; cases ht; exact hp
theorem AllUpY.all {p : Ty → Bool} {ts : List Ty} (h : AllUpY p ts ts.length) : ts.all p = true := by
  rw [List.all_eq_true]
  intro t ht
  obtain ⟨i, hi⟩ := List.mem_iff_getElem?.1 ht
  exact h i t (List.getElem?_eq_some_iff.1 hi).1 hi
theorem all_no {p : Ty → Bool} {ts : List Ty} {k : Nat} {u : Ty} (hu : ts[k]? = some u) (hp : p u = false) : ts.all p = false := by
  cases hb : ts.all p with
  | false => rfl
  | true =>
    have := List.all_eq_true.1 hb u (List.mem_of_getElem? hu)
    rw [hp] at this
    cases this

/-- Few and small enough. -/
def smallB (cs ms ctx : List Ty) : Bool := !(decide ((cs.length : Int) > 20) || decide ((ms.length : Int) > 20) || decide ((ctx.length : Int) > 20)) && ((cs ++ ms) ++ ctx).all (fewB 60 60)

set_option maxRecDepth 100000 in
set_option maxHeartbeats 1600000 in
theorem Small_calls (cs ms ctx : List Ty) (bs : Int) (cv mv xv : Value) (w : World) (hc : Holds w okT cs cv) (hm : Holds w okT ms mv) (hx : Holds w okT ctx xv) :
    Calls Try.prog 20 #[wov bs cv mv, xv] w fun e w' => e = .returned (.bool (smallB cs ms ctx)) ∧ Below w.heap.size w w' := by
  obtain ⟨c1, c2, rfl, _⟩ := hc.shape
  obtain ⟨m1, m2, rfl, _⟩ := hm.shape
  obtain ⟨a1, a2, rfl, _⟩ := hx.shape
  obtain ⟨N, hN⟩ : ∃ N, w.heap.size = N := ⟨_, rfl⟩
  rw [hN]
  obtain ⟨r, hr⟩ : ∃ r, smallB cs ms ctx = r := ⟨_, rfl⟩
  have HR : Hid ((!(decide ((cs.length : Int) > 20) || decide ((ms.length : Int) > 20) || decide ((ctx.length : Int) > 20)) && ((cs ++ ms) ++ ctx).all (fewB 60 60)) = r) := hr
  rw [hr]
  clear hr
  obtain ⟨q1, h1⟩ : ∃ q, decide ((cs.length : Int) > 20) = q := ⟨_, rfl⟩
  obtain ⟨q2, h2⟩ : ∃ q, decide ((ms.length : Int) > 20) = q := ⟨_, rfl⟩
  obtain ⟨q3, h3⟩ : ∃ q, decide ((ctx.length : Int) > 20) = q := ⟨_, rfl⟩
  rw [h1, h2, h3] at HR
  have h1' : decide (20 < (cs.length : Int)) = q1 := h1
  have h2' : decide (20 < (ms.length : Int)) = q2 := h2
  have h3' : decide (20 < (ctx.length : Int)) = q3 := h3
  obtain ⟨W0, hW0⟩ : ∃ W0, w.alloc (.cells #[.int .i64 bs, .slice c1 cs.length c2, .slice m1 ms.length m2] 47) = W0 := ⟨_, rfl⟩
  have b0 : Blk W0 N 47 #[.int .i64 bs, .slice c1 cs.length c2, .slice m1 ms.length m2] := by rw [← hW0]; exact Blk.new' w N 47 _ hN
  have bl0 : Below N w W0 := by rw [← hW0]; exact (Below.refl N w).alloc (by omega) _
  have hc0 := hc.bel (hN ▸ bl0)
  have hm0 := hm.bel (hN ▸ bl0)
  have hx0 := hx.bel (hN ▸ bl0)
  have HW : Hid _ := hW0
  have e1 := b0.cell 1
  have e2 := b0.cell 2
  have hl0 : N < W0.heap.size := b0.lt
  by_cases hbad : (q1 || q2 || q3) = true
  · have HR2 : Hid (r = false) := by show _ = _; rw [← HR.out, hbad]; rfl
    clear hW0 hc hm hx hc0 hm0 hx0 HR
    cases q1 <;> cases q2 <;> cases q3 <;> first
      | (simp at hbad; done)
      | (go_enter Try.func20, Try.ntmps20
         go_upto_region 1 with fail
         rw [HW.out]
         clear HW
         go_wp2
         go_ret
         exact ⟨ret_bool HR2.out.symm, bl0⟩)
  obtain ⟨rfl, rfl, rfl⟩ : q1 = false ∧ q2 = false ∧ q3 = false := by
    clear h1 h1' h2 h2' h3 h3' HR
    cases q1 <;> cases q2 <;> cases q3 <;> first | exact ⟨rfl, rfl, rfl⟩ | exact absurd rfl hbad
  have hcl : cs.length ≤ 20 := by have := of_decide_eq_false h1; omega
  have hml : ms.length ≤ 20 := by have := of_decide_eq_false h2; omega
  have hxl : ctx.length ≤ 20 := by have := of_decide_eq_false h3; omega
  have HR2 : Hid (((cs ++ ms) ++ ctx).all (fewB 60 60) = r) := by show _ = _; rw [← HR.out]; rfl
  have k1 := Behind_calls cs ms okT _ _ W0 hc0 hm0 (by omega)
  clear HR hW0 hbad
  go_enter Try.func20, Try.ntmps20
  go_upto_region 1 with fail
  rw [HW.out]
  clear HW
  go_wp2_with fail
  refine k1.mono ?_
  clear k1
  rintro e w1 ⟨v1, rfl, hv1, hb1⟩
  have hcml : (cs ++ ms).length ≤ 40 := by rw [List.length_append]; omega
  generalize cs ++ ms = cm at *
  obtain ⟨va, vc, rfl, _⟩ := hv1.shape
  have hB1 : Below N w w1 := bl0.trans (hb1.mono (by omega))
  have hx1 := hx0.bel hb1
  have k2 := Behind_calls cm ctx okT _ _ w1 (hv1.mono fun _ _ _ => trivial) hx1 (by omega)
  have hl1 : N < w1.heap.size := by have := hb1.size; omega
  clear hv1 hb1 bl0 hc0 hm0 hx0 b0 e1 e2
  go_wp2_with fail
  refine k2.mono ?_
  clear k2
  rintro e w2 ⟨v2, rfl, hv2, hb2⟩
  have hll : (cm ++ ctx).length ≤ 60 := by rw [List.length_append]; omega
  generalize cm ++ ctx = ts at *
  obtain ⟨ya, yc, rfl, _, hat⟩ := hv2.shape
  have HA : Hid _ := hat
  have hB2 : Below N w w2 := hB1.trans (hb2.mono (by omega))
  have hl2 : N < w2.heap.size := by have := hb2.size; omega
  clear hat hb2 hB1 hx1
  go_wp2
  go_loopw [6] (fun i wr => ∃ k : Nat, k ≤ ts.length ∧ i = .int .i64 k ∧ Hid (AllUpY (fewB 60 60) ts k) ∧ Below N w wr ∧ Below w2.heap.size w2 wr) (fun i _ => ts.length - (intOf i).toNat)
  case atStart => exact ⟨0, Nat.zero_le _, rfl, fun _ _ h => by omega, hB2, Below.refl _ _⟩
  case round =>
    obtain ⟨k, hk, rfl, HF, hbl, hbl2⟩ := hrel
    by_cases hlt : k < ts.length
    · obtain ⟨u, hu⟩ : ∃ u, ts[k]? = some u := ⟨_, List.getElem?_eq_getElem hlt⟩
      obtain ⟨g, o, s, rfl, _, hg, a0, a1', hs⟩ := HA.out k u hu
      have q0 := (cat hbl2 hg).trans a0
      have q1 := (cat hbl2 hg).trans a1'
      have y1 : (0 : Int) ≤ (k : Int) := by omega
      have y2 : (k : Int) < (ts.length : Int) := by omega
      have hcall := Few_calls 60 (by omega) 60 (by omega) u _ s wr (hs.bel hbl2)
      have HU : Hid (ts[k]? = some u) := hu
      obtain ⟨fb, hfb⟩ : ∃ fb, fewB 60 60 u = fb := ⟨_, rfl⟩
      have HFB : Hid _ := hfb
      rw [hfb] at hcall
      clear a0 a1' hu hfb hs
      go_wp2_with fail
      refine hcall.mono ?_
      rintro e w3 ⟨rfl, hb3⟩
      have B3 : Below N w w3 := hbl.trans (hb3.mono (by have := hbl.size; omega))
      have B32 := hbl2.trans (hb3.mono (by have := hbl2.size; omega))
      cases fb with
      | false =>
        go_wp2
        go_ret
        exact ⟨ret_bool (by rw [← HR2.out]; exact (all_no HU.out HFB.out).symm), B3⟩
      | true =>
        go_wp2
        go_roundw
        case rel => exact ⟨k + 1, by omega, by go_num, HF.out.step HU.out HFB.out, B3, B32⟩
        case measure => simp [intOf]; omega
    · obtain rfl : k = ts.length := by omega
      go_wp2
      go_ret
      exact ⟨ret_bool (by rw [← HR2.out]; exact HF.out.all.symm), hbl⟩

end Go.Proofs.Ytckagmagjogmnaa

