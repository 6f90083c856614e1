/-
  The contracts of slices.CompareFunc and term.compareAll of types, by kind.Compare.
-/
import Derived.Test.YtheokboggjnenaaCompare
import Derived.Deep.DeepCutAuto
namespace Go.Proofs.Ytheokboggjnenaa
open Go Go.RowKit Go.Sort

/-- Lists of types: by how many they are, then one by one. -/
def cmpAllL (ts us : List Ty) : Int := if ts.length ≠ us.length then sgn ts.length us.length else cmpL ts us 0

set_option maxRecDepth 100000 in
set_option maxHeartbeats 1600000 in
theorem CompareFunc_calls (ts us : List Ty) (ok : Nat → Prop) (sl sl' : Value) (w : World) (hh : Holds w ok ts sl) (hh' : Holds w ok us sl') (hle : ts.length = us.length) (hsz : sizeL ts ≤ 900000) (hsz' : sizeL us ≤ 900000) :
    Calls Try.prog 130 #[sl, sl', .func (.func 101) #[] #[]] w fun e w' => e = .returned (.int .i64 (cmpL ts us 0)) ∧ Below w.heap.size w w' := by
  have hln := sizeL_length ts
  have HZ : Hid (∀ t ∈ ts, t.size ≤ 900000) := fun t ht => by have := size_mem ht; omega
  have HZ' : Hid (∀ t ∈ us, t.size ≤ 900000) := fun t ht => by have := size_mem ht; omega
  obtain ⟨a, cap, rfl, hcap, hat⟩ := hh.shape
  have HA : Hid _ := hat
  obtain ⟨a', cap', rfl, hcap', hat'⟩ := hh'.shape
  have HA' : Hid _ := hat'
  have hn3 : ts.length ≤ 1000000 := by omega
  clear hat hat' hh hh' hsz hsz'
  obtain ⟨B, hB⟩ : ∃ B, w.heap.size = B := ⟨_, rfl⟩
  have HLE : Hid (ts.length = us.length) := hle
  obtain ⟨n, hn⟩ : ∃ n, ts.length = n := ⟨_, rfl⟩
  have HN : Hid (ts.length = n) := hn
  have HN' : Hid (us.length = n) := by show _ = _; omega
  rw [← hle, hn]
  rw [hn] at hln
  obtain ⟨q, hq⟩ : ∃ q, cmpL ts us 0 = q := ⟨_, rfl⟩
  have HQ : Hid (cmpL ts us 0 = q) := hq
  have hn2 : n ≤ 1000000 := by omega
  rw [hq, hB]
  clear hle hn hq hcap hcap' hn3
  go_enter Try.func130, Try.ntmps130
  go_wp2_with fail
  go_loopw [13] (fun i wr => ∃ k : Nat, k ≤ n ∧ i = .int .i64 k ∧ Hid (cmpL (ts.drop k) (us.drop k) 0 = q) ∧ Below B w wr)
    (fun i _ => n - (intOf i).toNat)
  case atStart => exact ⟨0, Nat.zero_le _, rfl, HQ.out, Below.refl _ _⟩
  case round =>
    obtain ⟨k, hk, rfl, HF, hbl⟩ := hrel
    by_cases hlt : k < n
    · obtain ⟨u, hu⟩ : ∃ u, ts[k]? = some u := ⟨_, List.getElem?_eq_getElem (by rw [HN.out]; exact hlt)⟩
      obtain ⟨v, hv9⟩ : ∃ v, us[k]? = some v := ⟨_, List.getElem?_eq_getElem (by rw [HN'.out]; exact hlt)⟩
      obtain ⟨g, o, s, rfl, _, hg, a0, a1, hs⟩ := HA.out k u hu
      obtain ⟨g', o', s', rfl, _, hg', e0, e1, hs'⟩ := HA'.out k v hv9
      rw [hB] at hg hg'
      have q0 := (cat hbl hg).trans a0
      have q1 := (cat hbl hg).trans a1
      obtain ⟨sa, sc, rfl, _⟩ := hs.shape
      obtain ⟨sb, sd, rfl, _⟩ := hs'.shape
      generalize u.args.length = m1 at *
      generalize v.args.length = m2 at *
      have hbx := hbl.alloc (by have := hbl.size; omega) (.cells #[.slice sa m1 sc, .int .i64 u.base] 63)
      have p0 := (cat hbx hg').trans e0
      have p1 := (cat hbx hg').trans e1
      have y1 : (0 : Int) ≤ (k : Int) := by omega
      have y2 : (k : Int) < (n : Int) := by omega
      have y4 : decide ((k : Int) ≥ (n : Int)) = false := by simp; omega
      have y5 : decide ((n : Int) ≤ (k : Int)) = false := by simp; omega
      have hs2 := hs.bel (hB ▸ hbl)
      have hs2' := hs'.bel (hB ▸ hbl)
      have HD : Hid _ := cmpL_drop hu hv9 0
      obtain ⟨r, hr⟩ : ∃ r, u.cmp v = r := ⟨_, rfl⟩
      rw [hr] at HD
      have hcall := Compare_calls u v ok _ _ ((wr.alloc (.cells #[.slice sa m1 sc, .int .i64 u.base] 63)).alloc (.cells #[.slice sb m2 sd, .int .i64 v.base] 63)) ((hs2.alloc _).alloc _) ((hs2'.alloc _).alloc _) (HZ.out u (List.mem_of_getElem? hu)) (HZ'.out v (List.mem_of_getElem? hv9))
      rw [hr] at hcall
      have hby := hbx.alloc (by have := hbx.size; omega) (.cells #[.slice sb m2 sd, .int .i64 v.base] 63)
      have hsy : B ≤ ((wr.alloc (.cells #[.slice sa m1 sc, .int .i64 u.base] 63)).alloc (.cells #[.slice sb m2 sd, .int .i64 v.base] 63)).heap.size := by have := hby.size; omega
      clear a0 a1 e0 e1 hu hv9 hr hbx hs2 hs2' hs hs'
      by_cases h0 : r = 0
      · have z1 : (r != 0) = false := by simp [h0]
        have HF2 : Hid (cmpL (ts.drop (k + 1)) (us.drop (k + 1)) 0 = q) := by show _ = _; rw [← HF.out, HD.out, if_neg (by simpa using h0)]
        clear h0 HD HF
        go_wp2_with (go_at_call 101; refine hcall.mono ?_; rintro e w1 ⟨rfl, hb1⟩)
        go_roundw
        case rel => exact ⟨k + 1, by omega, by go_num, HF2, hby.trans (hb1.mono hsy)⟩
        case measure => simp [intOf]; omega
      · have z1 : (r != 0) = true := by simp [h0]
        have HF2 : Hid (r = q) := by show _ = _; rw [← HF.out, HD.out, if_pos h0]
        clear h0 HD HF
        go_wp2_with (go_at_call 101; refine hcall.mono ?_; rintro e w1 ⟨rfl, hb1⟩)
        go_ret
        exact ⟨ret_int HF2.out, hby.trans (hb1.mono hsy)⟩
    · obtain rfl : k = n := by omega
      have HF2 : Hid (0 = q) := by show _ = _; rw [← HF.out, List.drop_eq_nil_of_le (by rw [HN.out]; exact Nat.le_refl _)]; simp [cmpL]
      go_wp2
      go_ret
      exact ⟨ret_int HF2.out, hbl⟩

set_option maxRecDepth 100000 in
set_option maxHeartbeats 400000 in
theorem compareAll_calls (ts us : List Ty) (ok : Nat → Prop) (sl sl' : Value) (w : World) (hh : Holds w ok ts sl) (hh' : Holds w ok us sl') (hsz : sizeL ts ≤ 900000) (hsz' : sizeL us ≤ 900000) :
    Calls Try.prog 100 #[sl, sl', .func (.func 101) #[] #[]] w fun e w' => e = .returned (.int .i64 (cmpAllL ts us)) ∧ Below w.heap.size w w' := by
  obtain ⟨a, cap, hsl, _⟩ := hh.shape
  obtain ⟨a', cap', hsl', _⟩ := hh'.shape
  have HC : Hid (cmpAllL ts us = if ts.length ≠ us.length then sgn ts.length us.length else cmpL ts us 0) := rfl
  obtain ⟨q, hq⟩ : ∃ q, cmpAllL ts us = q := ⟨_, rfl⟩
  rw [hq] at HC ⊢
  clear hq
  by_cases hle : ts.length = us.length
  · have HR : Hid (cmpL ts us 0 = q) := by show _ = _; rw [HC.out, if_neg (by simpa using hle)]
    have hcall := CompareFunc_calls ts us ok sl sl' w hh hh' hle hsz hsz'
    rw [HR.out] at hcall
    have hsg : sgn (ts.length : Int) (us.length : Int) = 0 := (sgn_zero _ _).2 (by omega)
    have hcc := cmpCompare_calls (ts.length : Int) (us.length : Int)
    rw [hsg] at hcc
    rw [hsl, hsl'] at hcall ⊢
    generalize ts.length = n at *
    generalize us.length = n' at *
    clear HC hh hh' hsl hsl' hsg hsz hsz' hle
    go_enter Try.func100, Try.ntmps100
    go_wp2_with fail
    refine (hcc _).mono ?_
    rintro e w' ⟨rfl, rfl⟩
    go_wp2_with fail
    refine hcall.mono ?_
    rintro e w1 ⟨rfl, hb1⟩
    go_wp2
    go_ret
    exact ⟨rfl, hb1⟩
  · have HR : Hid (sgn (ts.length : Int) (us.length : Int) = q) := by show _ = _; rw [HC.out, if_pos hle]
    have hne : q ≠ 0 := fun e => by
      have h1 := HR.out
      rw [e] at h1
      have := (sgn_zero _ _).1 h1
      omega
    have z1 : (q != 0) = true := by simp [hne]
    have hcc := cmpCompare_calls (ts.length : Int) (us.length : Int)
    rw [HR.out] at hcc
    rw [hsl, hsl']
    generalize ts.length = n at *
    generalize us.length = n' at *
    clear HC hh hh' hsl hsl' hsz hsz' hne hle
    go_enter Try.func100, Try.ntmps100
    go_wp2_with fail
    refine (hcc _).mono ?_
    rintro e w' ⟨rfl, rfl⟩
    go_wp2
    go_ret
    exact ⟨rfl, Below.refl _ _⟩

end Go.Proofs.Ytheokboggjnenaa
