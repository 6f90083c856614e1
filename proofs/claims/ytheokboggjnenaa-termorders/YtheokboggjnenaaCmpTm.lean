/-
  The contracts of slices.CompareFunc and term.compareAll of terms, by a closure that goes on along two lists of sizes.
-/
import Derived.Test.YtheokboggjnenaaOrdT
import Derived.Test.YtheokboggjnenaaSizesT
namespace Go.Proofs.Ytheokboggjnenaa
open Go Go.RowKit Go.Sort

/-- the sizes of the k-th argument begin behind those of the ones ahead of it -/
theorem szsT_at {t : Tm} {k : Nat} {u : Tm} (h : t.args[k]? = some u) (i : Nat) (x : Int) (hx : u.szs[i]? = some x) : t.szs[1 + sizeT (t.args.take k) + i]? = some x := by
  rw [t.szs_eq]
  obtain ⟨hl, he⟩ := List.getElem?_eq_some_iff.1 h
  rw [show 1 + sizeT (t.args.take k) + i = sizeT (t.args.take k) + i + 1 by omega, List.getElem?_cons_succ]
  have e : szsT t.args = szsT (t.args.take k) ++ (u.szs ++ szsT (t.args.drop (k + 1))) := by
    conv => lhs; rw [← List.take_append_drop k t.args, List.drop_eq_getElem_cons hl, he, szsT_append]
    simp [szsT]
  have hlx := (List.getElem?_eq_some_iff.1 hx).1
  rw [e, List.getElem?_append_right (by rw [szsT_len]; omega), szsT_len, show sizeT (t.args.take k) + i - sizeT (t.args.take k) = i by omega, List.getElem?_append_left hlx]
  exact hx

/-- What the closure of compare does at the k-th arguments, in whatever world that kept all below P. -/
def CmpStep (ts us : List Tm) (A P Q : Nat) (W0 : World) : Prop := ∀ (k : Nat) (u v : Tm), ts[k]? = some u → us[k]? = some v → ts.take k = us.take k → ∀ (ok : Nat → Prop) (sb sl sb' sl' : Value) (wr : World), Below P W0 wr → Blk wr P 3 #[.int .i64 (1 + (sizeT (ts.take k) : Int))] →
    Holds wr ok u.binds sb → HoldsT wr ok u.args sl → Holds wr ok v.binds sb' → HoldsT wr ok v.args sl' →
    Calls Try.prog 104 #[tmv sb u.kind u.idx sl, tmv sb' v.kind v.idx sl', .pointer (some ⟨A, 0, none⟩), .pointer (some ⟨P, 0, none⟩), .pointer (some ⟨Q, 0, none⟩)] wr fun e w' => e = .returned (.int .i64 (u.cmp v)) ∧ Below P wr w' ∧ Blk w' P 3 #[.int .i64 (1 + (sizeT (ts.take (k + 1)) : Int))]

set_option maxRecDepth 100000 in
set_option maxHeartbeats 1600000 in
theorem CompareFuncT_calls (ts us : List Tm) (ok : Nat → Prop) (sl sl' : Value) (A P Q : Nat) (w : World) (hh : HoldsT w ok ts sl) (hh' : HoldsT w ok us sl') (hok : ∀ b, ok b → b < P) (hle : ts.length = us.length) (hn2 : ts.length ≤ 1000000) (hP : Blk w P 3 #[.int .i64 1]) (hS : CmpStep ts us A P Q w) :
    Calls Try.prog 133 #[sl, sl', .func (.func 104) #[] #[.pointer (some ⟨A, 0, none⟩), .pointer (some ⟨P, 0, none⟩), .pointer (some ⟨Q, 0, none⟩)]] w fun e w' => e = .returned (.int .i64 (cmpT ts us)) ∧ Below P w w' := by
  have HS : Hid _ := hS
  obtain ⟨a, cap, rfl, hcap, hat⟩ := hh.shape
  have HA : Hid _ := hat
  obtain ⟨a', cap', rfl, hcap', hat'⟩ := hh'.shape
  have HA' : Hid _ := hat'
  clear hat hat' hh hh' hS
  have HLE : Hid (ts.length = us.length) := hle
  have HO : Hid _ := hok
  obtain ⟨n, hn⟩ : ∃ n, ts.length = n := ⟨_, rfl⟩
  have HN : Hid (ts.length = n) := hn
  have HN' : Hid (us.length = n) := by show _ = _; omega
  rw [← hle, hn]
  rw [hn] at hn2
  obtain ⟨q, hq⟩ : ∃ q, cmpT ts us = q := ⟨_, rfl⟩
  have HQ : Hid (cmpT ts us = q) := hq
  rw [hq]
  clear hle hn hq hcap hcap' hok
  go_enter Try.func133, Try.ntmps133
  go_wp2_with fail
  go_loopw [13] (fun i wr => ∃ k : Nat, k ≤ n ∧ i = .int .i64 k ∧ Hid (ts.take k = us.take k) ∧ Hid (cmpT (ts.drop k) (us.drop k) = q) ∧ Blk wr P 3 #[.int .i64 (1 + (sizeT (ts.take k) : Int))] ∧ Below P w wr)
    (fun i _ => n - (intOf i).toNat)
  case atStart => exact ⟨0, Nat.zero_le _, rfl, rfl, HQ.out, by simpa [sizeT] using hP, Below.refl _ _⟩
  case round =>
    obtain ⟨k, hk, rfl, HE, HF, hbk, hbl⟩ := hrel
    by_cases hlt : k < n
    · obtain ⟨u, hu⟩ : ∃ u, ts[k]? = some u := ⟨_, List.getElem?_eq_getElem (by rw [HN.out]; exact hlt)⟩
      obtain ⟨v, hv9⟩ : ∃ v, us[k]? = some v := ⟨_, List.getElem?_eq_getElem (by rw [HN'.out]; exact hlt)⟩
      obtain ⟨g, o, s, r0, rfl, hg, _, a0, a1, a2, a3, hs, hsr⟩ := HA.out k u hu
      obtain ⟨g', o', s', r0', rfl, hg', _, e0, e1, e2, e3, hs', hsr'⟩ := HA'.out k v hv9
      have hg2 := HO.out g hg
      have hg2' := HO.out g' hg'
      obtain ⟨sa, sc, rfl, _⟩ := hs.shape
      obtain ⟨sd, se, rfl, _⟩ := hsr.shape
      obtain ⟨sa', sc', rfl, _⟩ := hs'.shape
      obtain ⟨sd', se', rfl, _⟩ := hsr'.shape
      generalize u.binds.length = n1 at *
      generalize u.args.length = n2 at *
      generalize v.binds.length = n3 at *
      generalize v.args.length = n4 at *
      have hPr := hbk.lt
      have q0 := (cat hbl hg2).trans a0
      have q1 := (cat hbl hg2).trans a1
      have q2 := (cat hbl hg2).trans a2
      have q3 := (cat hbl hg2).trans a3
      have hbx := hbl.alloc (by omega) (.cells #[.slice sa n1 sc, .int .i64 u.kind, .int .i64 u.idx, .slice sd n2 se] 34)
      have p0 := (cat hbx hg2').trans e0
      have p1 := (cat hbx hg2').trans e1
      have p2 := (cat hbx hg2').trans e2
      have p3 := (cat hbx hg2').trans e3
      have y1 : (0 : Int) ≤ (k : Int) := by omega
      have y2 : (k : Int) < (n : Int) := by omega
      have y4 : decide ((k : Int) ≥ (n : Int)) = false := by simp; omega
      have y5 : decide ((n : Int) ≤ (k : Int)) = false := by simp; omega
      have hkeep : ∀ b, b < w.heap.size → ok b → wr.heap[b]? = w.heap[b]? ∧ ok b := fun b hb ho => ⟨hbl.block b (HO.out b ho), ho⟩
      have hs2 := hs.keep hkeep
      have hsr2 := hsr.keep hkeep
      have hs2' := hs'.keep hkeep
      have hsr2' := hsr'.keep hkeep
      have hby := hbx.alloc (by simp; omega) (.cells #[.slice sa' n3 sc', .int .i64 v.kind, .int .i64 v.idx, .slice sd' n4 se'] 34)
      have hcall := HS.out k u v hu hv9 HE.out ok _ _ _ _ ((wr.alloc (.cells #[.slice sa n1 sc, .int .i64 u.kind, .int .i64 u.idx, .slice sd n2 se] 34)).alloc (.cells #[.slice sa' n3 sc', .int .i64 v.kind, .int .i64 v.idx, .slice sd' n4 se'] 34)) hby ((hbk.alloc _).alloc _) ((hs2.alloc _).alloc _) ((hsr2.alloc _).alloc _) ((hs2'.alloc _).alloc _) ((hsr2'.alloc _).alloc _)
      have HD : Hid _ := cmpT_drop hu hv9
      have HE2 : Hid (u = v → ts.take (k + 1) = us.take (k + 1)) := fun e => by rw [List.take_add_one, List.take_add_one, hu, hv9, HE.out, e]
      obtain ⟨r, hr⟩ : ∃ r, u.cmp v = r := ⟨_, rfl⟩
      have HUV : Hid (r = 0 → u = v) := fun e => (tcmp_zero u v).1 (hr.trans e)
      rw [hr] at HD hcall
      clear a0 a1 a2 a3 e0 e1 e2 e3 hu hv9 hr hbx hs2 hsr2 hs2' hsr2' hs hsr hs' hsr' hkeep
      by_cases h0 : r = 0
      · have z1 : (r != 0) = false := by simp [h0]
        have HF2 : Hid (cmpT (ts.drop (k + 1)) (us.drop (k + 1)) = q) := by show _ = _; rw [← HF.out, HD.out, if_neg (by simpa using h0)]
        have HE3 : Hid (ts.take (k + 1) = us.take (k + 1)) := HE2.out (HUV.out h0)
        clear h0 HD HF HE2 HUV
        go_wp2_with (go_at_call 104; refine hcall.mono ?_; rintro e w1 ⟨rfl, hb1, hbk1⟩)
        go_roundw
        case rel => exact ⟨k + 1, by omega, by go_num, HE3, HF2, hbk1, hby.trans hb1⟩
        case measure => simp [intOf]; omega
      · have z1 : (r != 0) = true := by simp [h0]
        have HF2 : Hid (r = q) := by show _ = _; rw [← HF.out, HD.out, if_pos h0]
        clear h0 HD HF HE2 HUV
        go_wp2_with (go_at_call 104; refine hcall.mono ?_; rintro e w1 ⟨rfl, hb1, hbk1⟩)
        go_ret
        exact ⟨ret_int HF2.out, hby.trans hb1⟩
    · obtain rfl : k = n := by omega
      have HF2 : Hid (0 = q) := by show _ = _; rw [← HF.out, List.drop_eq_nil_of_le (by rw [HN.out]; exact Nat.le_refl _)]; simp [cmpT]
      go_wp2
      go_ret
      exact ⟨ret_int HF2.out, hbl⟩

/-- Lists of terms: by how many they are, then one by one. -/
def cmpAllT (ts us : List Tm) : Int := if ts.length ≠ us.length then sgn ts.length us.length else cmpT ts us

set_option maxRecDepth 100000 in
set_option maxHeartbeats 400000 in
theorem compareAllT_calls (ts us : List Tm) (ok : Nat → Prop) (sl sl' : Value) (A P Q : Nat) (w : World) (hh : HoldsT w ok ts sl) (hh' : HoldsT w ok us sl') (hok : ∀ b, ok b → b < P) (hn2 : ts.length ≤ 1000000) (hP : Blk w P 3 #[.int .i64 1]) (hS : CmpStep ts us A P Q w) :
    Calls Try.prog 103 #[sl, sl', .func (.func 104) #[] #[.pointer (some ⟨A, 0, none⟩), .pointer (some ⟨P, 0, none⟩), .pointer (some ⟨Q, 0, none⟩)]] w fun e w' => e = .returned (.int .i64 (cmpAllT ts us)) ∧ Below P w w' := by
  obtain ⟨a, cap, hsl, _⟩ := hh.shape
  obtain ⟨a', cap', hsl', _⟩ := hh'.shape
  have HC : Hid (cmpAllT ts us = if ts.length ≠ us.length then sgn ts.length us.length else cmpT ts us) := rfl
  obtain ⟨q, hq⟩ : ∃ q, cmpAllT ts us = q := ⟨_, rfl⟩
  rw [hq] at HC ⊢
  clear hq
  by_cases hle : ts.length = us.length
  · have HR : Hid (cmpT ts us = q) := by show _ = _; rw [HC.out, if_neg (by simpa using hle)]
    have hcall := CompareFuncT_calls ts us ok sl sl' A P Q w hh hh' hok hle hn2 hP hS
    rw [HR.out] at hcall
    have hsg : sgn (ts.length : Int) (us.length : Int) = 0 := (sgn_zero _ _).2 (by omega)
    have hcc := cmpCompare_calls (ts.length : Int) (us.length : Int)
    rw [hsg] at hcc
    rw [hsl, hsl'] at hcall ⊢
    clear hS
    generalize ts.length = n at *
    generalize us.length = n' at *
    clear HC hh hh' hsl hsl' hsg hn2 hle
    go_enter Try.func103, Try.ntmps103
    go_wp2_with fail
    refine (hcc _).mono ?_
    rintro e w' ⟨rfl, rfl⟩
    go_wp2_with fail
    refine hcall.mono ?_
    rintro e w1 ⟨rfl, hb1⟩
    go_wp2
    go_ret
    exact ⟨rfl, hb1⟩
  · have HR : Hid (sgn (ts.length : Int) (us.length : Int) = q) := by show _ = _; rw [HC.out, if_pos hle]
    have hne : q ≠ 0 := fun e => by
      have h1 := HR.out
      rw [e] at h1
      have := (sgn_zero _ _).1 h1
      omega
    have z1 : (q != 0) = true := by simp [hne]
    have hcc := cmpCompare_calls (ts.length : Int) (us.length : Int)
    rw [HR.out] at hcc
    rw [hsl, hsl']
    clear hS
    generalize ts.length = n at *
    generalize us.length = n' at *
    clear HC hh hh' hsl hsl' hn2 hne hle hP
    go_enter Try.func103, Try.ntmps103
    go_wp2_with fail
    refine (hcc _).mono ?_
    rintro e w' ⟨rfl, rfl⟩
    go_wp2
    go_ret
    exact ⟨rfl, Below.refl _ _⟩

end Go.Proofs.Ytheokboggjnenaa
