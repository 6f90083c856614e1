/-
  The contracts of slices.EqualFunc and kind.Equal of types, and of term.freshType.
-/
import Derived.Test.YtckagmagjogmnaaSame
import Derived.Test.YtckagmagjogmnaaMake
namespace Go.Proofs.Ytckagmagjogmnaa
open Go Go.RowKit Go.Sort

/-- Equal's own word of one type -/
def EqualAt (t : Ty) : Prop := ∀ (t' : Ty) (ok : Nat → Prop) (sl sl' : Value) (w : World), Holds w ok t.args sl → Holds w ok t'.args sl' →
    Calls Try.prog 31 #[tv sl t.base, tv sl' t'.base] w fun e w' => e = .returned (.bool (t.same t')) ∧ Below w.heap.size w w'

set_option maxRecDepth 100000 in
set_option maxHeartbeats 1600000 in
theorem EqualFunc_calls (ts us : List Ty) (ok : Nat → Prop) (sl sl' : Value) (w : World) (hh : Holds w ok ts sl) (hh' : Holds w ok us sl') (hsz : ts.length ≤ 1000000) (IH : ∀ t ∈ ts, EqualAt t) :
    Calls Try.prog 57 #[sl, sl', .func (.func 31) #[] #[]] w fun e w' => e = .returned (.bool (sameL ts us)) ∧ Below w.heap.size w w' := by
  have HI : Hid _ := IH
  clear IH
  obtain ⟨a, cap, rfl, hcap, hat⟩ := hh.shape
  have HA : Hid _ := hat
  obtain ⟨a', cap', rfl, hcap', hat'⟩ := hh'.shape
  have HA' : Hid _ := hat'
  clear hat hat' hh hh'
  obtain ⟨B, hB⟩ : ∃ B, w.heap.size = B := ⟨_, rfl⟩
  by_cases hle : ts.length = us.length
  · have z2 : ((ts.length : Int) != (us.length : Int)) = false := by simp [hle]
    have HLE : Hid (ts.length = us.length) := hle
    clear hle
    go_enter Try.func57, Try.ntmps57
    go_wp2
    go_loopw [17] (fun i wr => ∃ k : Nat, k ≤ ts.length ∧ i = .int .i64 k ∧ Hid (SameUp ts us k) ∧ Below B w wr)
      (fun i _ => ts.length - (intOf i).toNat)
    case atStart => exact ⟨0, Nat.zero_le _, rfl, fun _ _ _ h => by omega, Below.refl _ _⟩
    case round =>
      obtain ⟨k, hk, rfl, HF, hbl⟩ := hrel
      by_cases hlt : k < ts.length
      · obtain ⟨u, hu⟩ : ∃ u, ts[k]? = some u := ⟨_, List.getElem?_eq_getElem hlt⟩
        have hlt' : k < us.length := by have := HLE.out; omega
        obtain ⟨v, hv⟩ : ∃ v, us[k]? = some v := ⟨_, List.getElem?_eq_getElem hlt'⟩
        obtain ⟨g, o, s, rfl, _, hg, a0, a1, hs⟩ := HA.out k u hu
        obtain ⟨g', o', s', rfl, _, hg', e0, e1, hs'⟩ := HA'.out k v hv
        rw [hB] at hg hg'
        have q0 := (cat hbl hg).trans a0
        have q1 := (cat hbl hg).trans a1
        have hbx := hbl.alloc (by have := hbl.size; omega) (.cells #[s, .int .i64 u.base] 32)
        have p0 := (cat hbx hg').trans e0
        have p1 := (cat hbx hg').trans e1
        have hm := List.mem_of_getElem? hu
        have y1 : (0 : Int) ≤ (k : Int) := by omega
        have y2 : (k : Int) < (ts.length : Int) := by omega
        have y3 : (k : Int) < (us.length : Int) := by omega
        have hs2 : Holds wr ok u.args s := hs.bel (hB ▸ hbl)
        have hs2' : Holds wr ok v.args s' := hs'.bel (hB ▸ hbl)
        have HU : Hid (ts[k]? = some u) := hu
        have HV : Hid (us[k]? = some v) := hv
        obtain ⟨sa, sc, hsa, _⟩ := hs.shape
        obtain ⟨sb, sd, hsb, _⟩ := hs'.shape
        obtain ⟨r, hr⟩ : ∃ r, u.same v = r := ⟨_, rfl⟩
        have HR2 : Hid (u.same v = r) := hr
        have hcall := HI.out u hm v ok s s' ((wr.alloc (.cells #[s, .int .i64 u.base] 32)).alloc (.cells #[s', .int .i64 v.base] 32)) ((hs2.alloc _).alloc _) ((hs2'.alloc _).alloc _)
        have hby := hbx.alloc (by have := hbx.size; omega) (.cells #[s', .int .i64 v.base] 32)
        have hsy : B ≤ ((wr.alloc (.cells #[s, .int .i64 u.base] 32)).alloc (.cells #[s', .int .i64 v.base] 32)).heap.size := by have := hby.size; omega
        rw [hr] at hcall
        rw [hsa] at q0 hcall hby hsy p0 p1
        rw [hsb] at p0 hcall hby hsy
        clear a0 a1 e0 e1 hu hv hr hbx hs2 hs2'
        cases r
        · go_wp2_with (go_at_call 31; refine hcall.mono ?_; rintro e w1 ⟨rfl, hb1⟩)
          go_ret
          exact ⟨ret_bool (sameL_no _ _ _ _ _ HU.out HV.out HR2.out).symm, hB ▸ hby.trans (hb1.mono hsy)⟩
        · go_wp2_with (go_at_call 31; refine hcall.mono ?_; rintro e w1 ⟨rfl, hb1⟩)
          go_roundw
          case rel => exact ⟨k + 1, by omega, by go_num, HF.out.step HU.out HV.out HR2.out, hby.trans (hb1.mono hsy)⟩
          case measure => simp [intOf]; omega
      · obtain rfl : k = ts.length := by omega
        go_wp2
        go_ret
        exact ⟨ret_bool (sameL_of_up _ _ HLE.out fun i x y hx hy => HF.out i x y (List.getElem?_eq_some_iff.1 hx).1 hx hy).symm, hB ▸ hbl⟩
  · have z2 : ((ts.length : Int) != (us.length : Int)) = true := by simp; omega
    have HR : Hid (sameL ts us = false) := sameL_len _ _ hle
    clear hle
    go_enter Try.func57, Try.ntmps57
    go_wp2
    go_ret
    exact ⟨ret_bool HR.out.symm, Below.refl _ _⟩

set_option maxRecDepth 100000 in
set_option maxHeartbeats 1600000 in
theorem Equal_calls (t : Ty) : t.size ≤ 1000000 → EqualAt t := by
  induction t using Ty.ind with
  | h t ih =>
  intro hsz t' ok sl sl' w hh hh'
  have hs2 := t.size_eq
  have hl := sizeL_length t.args
  have hIH : Hid (∀ u ∈ t.args, EqualAt u) := fun u hu => ih u hu (by have := size_mem hu; omega)
  have hse := t.same_eq t'
  have HS : Hid _ := hse
  have hlen : t.args.length ≤ 1000000 := by omega
  clear ih hse hs2
  obtain ⟨a, cap, hsl, _⟩ := hh.shape
  obtain ⟨a', cap', hsl', _⟩ := hh'.shape
  generalize t.args.length = tn at hsl
  generalize t'.args.length = tn' at hsl'
  subst hsl hsl'
  obtain ⟨B, hB⟩ : ∃ B, w.heap.size = B := ⟨_, rfl⟩
  rw [hB]
  by_cases hba : t.base = t'.base
  · have z1 : (t.base == t'.base) = true := by simp [hba]
    have HR : Hid (t.same t' = sameL t.args t'.args) := by show _ = _; rw [HS.out, hba]; simp
    clear HS hba
    go_enter Try.func31, Try.ntmps31
    go_wp2_with fail
    refine (EqualFunc_calls t.args t'.args ok _ _ _ ((hh.alloc _).alloc _) ((hh'.alloc _).alloc _) hlen hIH.out).mono ?_
    rintro e w1 ⟨rfl, hb1⟩
    have hb0 : Below B w ((w.alloc (.cells #[.slice a tn cap, .int .i64 t.base] 32)).alloc (.cells #[.slice a' tn' cap', .int .i64 t'.base] 32)) := ((Below.refl B w).alloc (by omega) _).alloc (by simp; omega) _
    have hb2 : Below B w w1 := hb0.trans (hb1.mono (by have := hb0.size; omega))
    clear hb0 hb1
    go_wp2
    go_ret
    exact ⟨ret_bool HR.out.symm, hb2⟩
  · have z1 : (t.base == t'.base) = false := by simp [hba]
    have HR : Hid (t.same t' = false) := by show _ = _; rw [HS.out]; simp [hba]
    clear HS hba
    go_enter Try.func31, Try.ntmps31
    go_wp2
    go_ret
    exact ⟨ret_bool HR.out.symm, ((Below.refl B w).alloc (by omega) _).alloc (by simp; omega) _⟩

set_option maxRecDepth 100000 in
set_option maxHeartbeats 1000000 in
theorem freshType_calls (t : Ty) (ok : Nat → Prop) (sl : Value) (w : World) (hh : Holds w ok t.args sl) (hsz : t.size ≤ 1000000) :
    Calls Try.prog 72 #[tv sl t.base] w fun e w' => ∃ v, e = .returned (tv v t.base) ∧ Holds w' (fun b => w.heap.size ≤ b) t.args v ∧ Below w.heap.size w w' := by
  obtain ⟨a, cap, hsl, _⟩ := hh.shape
  generalize hn : t.args.length = tn at hsl
  subst hsl
  obtain ⟨N, hN⟩ : ∃ N, w.heap.size = N := ⟨_, rfl⟩
  rw [hN]
  have hsz2 := t.size_eq
  generalize hw1 : (w.alloc (.cells #[.slice a tn cap, .int .i64 t.base] 32)).alloc (.cells #[.slice none 0 0, .int .i64 0] 32) = w1
  have b1 : Blk w1 N 32 #[.slice a tn cap, .int .i64 t.base] := by rw [← hw1]; exact (Blk.new' w N 32 _ hN).alloc _
  have b2 : Blk w1 (N + 1) 32 #[.slice none 0 0, .int .i64 0] := by rw [← hw1]; exact Blk.new' _ (N + 1) 32 _ (by simp [hN])
  have bl1 : Below N w w1 := by rw [← hw1]; exact ((Below.refl N w).alloc (by omega) _).alloc (by simp; omega) _
  have hh1 : Holds w1 ok t.args (.slice a tn cap) := hh.bel (by rw [hN]; exact bl1)
  have c0 := b1.cell 0
  have c1 := b1.cell 1
  have hcall := kOf_calls t.base t.args ok (.slice a tn cap) w1 hh1 (by omega)
  go_enter Try.func72, Try.ntmps72
  go_wp2_with fail
  refine hcall.mono ?_
  rintro e w2 ⟨v2, rfl, hv2, hb2⟩
  obtain ⟨ya, yc, hv, _⟩ := hv2.shape
  rw [hn] at hv
  subst hv
  have b3 := b2.below hb2 b2.lt
  have d0 := b3.cell 0
  have d1 := b3.cell 1
  have f0 := b3.frozen 0
  have f1 := b3.frozen 1
  have hs1 : N + 1 < w1.heap.size := b2.lt
  have hB2 : Below N w w2 := bl1.trans (hb2.mono (by omega))
  have hB3 : Below N w ((w2.setCell ⟨N + 1, 0, none⟩ (.slice ya tn yc)).setCell ⟨N + 1, 1, none⟩ (.int .i64 t.base)) := bset (bset hB2 (by omega) _) (by omega) _
  have hH3 : Holds ((w2.setCell ⟨N + 1, 0, none⟩ (.slice ya tn yc)).setCell ⟨N + 1, 1, none⟩ (.int .i64 t.base)) (fun b => N ≤ b) t.args (.slice ya tn yc) := holds_set2 hv2 (fun b _ ho => ⟨by omega, by omega⟩) _ _ _ _
  have c9 := (b3.set 0 (.slice ya tn yc)).set 1 (.int .i64 t.base)
  go_wp2
  generalize (w2.setCell ⟨N + 1, 0, none⟩ (.slice ya tn yc)).setCell ⟨N + 1, 1, none⟩ (.int .i64 t.base) = W5 at *
  have e0 : W5.cell? ⟨N + 1, 0, none⟩ = some (.slice ya tn yc) := c9.cell 0
  have e1 : W5.cell? ⟨N + 1, 1, none⟩ = some (.int .i64 t.base) := c9.cell 1
  exact bodyPost_ret (v := tv (.slice ya tn yc) t.base) (by simp [results, Try.results72, go_sem, e0, e1]) rfl ⟨_, rfl, hH3, hB3⟩

end Go.Proofs.Ytckagmagjogmnaa
