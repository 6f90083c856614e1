/-
  The contract of the document's own Same.
-/
import Derived.Test.YtckagmagjogmnaaFew
import Derived.Lib.QuietBelow
namespace Go.Proofs.Ytckagmagjogmnaa
open Go Go.RowKit Go.Sort

def SameUp (ts us : List Ty) (k : Nat) : Prop := ∀ i t u, i < k → ts[i]? = some t → us[i]? = some u → t.same u = true
theorem SameUp.step {ts us : List Ty} {k : Nat} {t u : Ty} (h : SameUp ts us k) (ht : ts[k]? = some t) (hu : us[k]? = some u) (hp : t.same u = true) : SameUp ts us (k + 1) := by
  intro i a b hi ha hb
  rcases Nat.lt_or_ge i k with hl | hl
  · exact h i a b hl ha hb
  · obtain rfl : i = k := by omega
    rw [ht] at ha; rw [hu] at hb; cases ha; cases hb; exact hp
theorem sameL_of_up (ts us : List Ty) (hl : ts.length = us.length) (h : ∀ (i : Nat) (t u : Ty), ts[i]? = some t → us[i]? = some u → t.same u = true) : sameL ts us = true := by
  induction ts generalizing us with
  | nil => cases us with
    | nil => rfl
    | cons u us => simp at hl
  | cons t ts ih => cases us with
    | nil => simp at hl
    | cons u us =>
      have h0 := h 0 t u (by simp) (by simp)
      have := ih us (by simpa using hl) (fun i a b ha hb => h (i + 1) a b (by simpa using ha) (by simpa using hb))
      simp [sameL, h0, this]
theorem sameL_no (ts us : List Ty) (i : Nat) (t u : Ty) (ht : ts[i]? = some t) (hu : us[i]? = some u) (h : t.same u = false) : sameL ts us = false := by
  induction ts generalizing us i with
  | nil => simp at ht
  | cons a ts ih => cases us with
    | nil => simp at hu
    | cons b us =>
      cases i with
      | zero => simp at ht hu; subst ht; subst hu; simp [sameL, h]
      | succ i => have := ih us i (by simpa using ht) (by simpa using hu); simp [sameL, this]
theorem sameL_len (ts us : List Ty) (h : ts.length ≠ us.length) : sameL ts us = false := by
  cases hs : sameL ts us with
  | false => rfl
  | true => exact absurd (sameL_length hs) h

set_option maxRecDepth 100000 in
set_option maxHeartbeats 1600000 in
theorem Same_calls (t : Ty) : ∀ (t' : Ty) (ok ok' : Nat → Prop) (sl sl' : Value) (w : World), Holds w ok t.args sl → Holds w ok' t'.args sl' → t.size ≤ 1000000 →
    Calls Try.prog 28 #[tv sl t.base, tv sl' t'.base] w fun e w' => e = .returned (.bool (t.same t')) ∧ Below w.heap.size w w' := by
  induction t using Ty.ind with
  | h t ih =>
  intro t' ok ok' sl sl' w hh hh' hsz
  obtain ⟨ts, hts⟩ : ∃ ts, t.args = ts := ⟨_, rfl⟩
  obtain ⟨us, hus⟩ : ∃ us, t'.args = us := ⟨_, rfl⟩
  have hsz2 := t.size_eq
  have hse := t.same_eq t'
  rw [hts] at hh ih hsz2 hse
  rw [hus] at hh' hse
  have HL : Hid _ := hse
  clear hse
  obtain ⟨a, cap, rfl, hcap, hat⟩ := hh.shape
  have HA : Hid _ := hat
  obtain ⟨a', cap', rfl, hcap', hat'⟩ := hh'.shape
  have HA' : Hid _ := hat'
  clear hat hh hat' hh'
  have hln := sizeL_length ts
  obtain ⟨B, hB⟩ : ∃ B, w.heap.size = B := ⟨_, rfl⟩
  by_cases hba : t.base = t'.base
  · have z1 : (t.base != t'.base) = false := by simp [hba]
    by_cases hle : ts.length = us.length
    · have z2 : ((ts.length : Int) != (us.length : Int)) = false := by simp [hle]
      have HR : Hid (t.same t' = sameL ts us) := by show _ = _; rw [HL.out, hba]; simp
      have HLE : Hid (ts.length = us.length) := hle
      clear HL hba hle
      go_enter Try.func28, Try.ntmps28
      go_wp2
      generalize hw0 : (w.alloc (.cells #[.slice a ts.length cap, .int .i64 t.base] 24)).alloc (.cells #[.slice a' us.length cap', .int .i64 t'.base] 24) = w0
      have b0 : Blk w0 B 24 #[.slice a ts.length cap, .int .i64 t.base] := by rw [← hw0]; exact (Blk.new' w B 24 _ hB).alloc _
      have b1 : Blk w0 (B + 1) 24 #[.slice a' us.length cap', .int .i64 t'.base] := by rw [← hw0]; exact Blk.new' _ (B + 1) 24 _ (by simp [hB])
      have bl0 : Below B w w0 := by rw [← hw0]; exact ((Below.refl B w).alloc (by omega) _).alloc (by simp; omega) _
      clear hw0
      go_loopw [5] (fun i wr => ∃ k : Nat, k ≤ ts.length ∧ i = .int .i64 k ∧ Hid (SameUp ts us k) ∧ Blk wr B 24 #[.slice a ts.length cap, .int .i64 t.base] ∧ Blk wr (B + 1) 24 #[.slice a' us.length cap', .int .i64 t'.base] ∧ Below B w wr)
        (fun i _ => ts.length - (intOf i).toNat)
      case atStart => exact ⟨0, Nat.zero_le _, rfl, fun _ _ _ h => by omega, b0, b1, bl0⟩
      case round =>
        clear b0 b1 bl0
        obtain ⟨k, hk, rfl, HF, hb, hb', hbl⟩ := hrel
        have r0 := hb.cell 0
        have r1 := hb'.cell 0
        by_cases hlt : k < ts.length
        · obtain ⟨u, hu⟩ : ∃ u, ts[k]? = some u := ⟨_, List.getElem?_eq_getElem hlt⟩
          have hlt' : k < us.length := by have := HLE.out; omega
          obtain ⟨v, hv⟩ : ∃ v, us[k]? = some v := ⟨_, List.getElem?_eq_getElem hlt'⟩
          obtain ⟨g, o, s, rfl, _, hg, a0, a1, hs⟩ := HA.out k u hu
          obtain ⟨g', o', s', rfl, _, hg', c0, c1, hs'⟩ := HA'.out k v hv
          have q0 := fun d os => cell_regrown ((cat hbl (by omega)).trans a0) d os
          have q1 := fun d os => cell_regrown ((cat hbl (by omega)).trans a1) d os
          have p0 := fun d os => cell_regrown ((cat hbl (by omega)).trans c0) d os
          have p1 := fun d os => cell_regrown ((cat hbl (by omega)).trans c1) d os
          have m0 := fun d os => cell_regrown r0 d os
          have m1 := fun d os => cell_regrown r1 d os
          have hm := List.mem_of_getElem? hu
          have hus2 := size_mem hm
          have y1 : (0 : Int) ≤ (k : Int) := by omega
          have y2 : (k : Int) < (ts.length : Int) := by omega
          have y3 : (k : Int) < (us.length : Int) := by omega
          have hs2 : Holds wr ok u.args s := hs.bel (hB ▸ hbl)
          have hs2' : Holds wr ok' v.args s' := hs'.bel (hB ▸ hbl)
          have HU : Hid (ts[k]? = some u) := hu
          have HV : Hid (us[k]? = some v) := hv
          clear a0 a1 c0 c1 hu hv
          obtain ⟨r, hr⟩ : ∃ r, u.same v = r := ⟨_, rfl⟩
          have HR2 : Hid (u.same v = r) := hr
          have CC : Hid (∀ d os, Calls Try.prog 28 #[tv s u.base, tv s' v.base] (grow (redrawn wr d) os) fun e w'' => e = .returned (.bool r) ∧ ∃ p : Regrown, w'' = grow (redrawn wr p.d) p.os) := fun d os =>
            Calls.regrown_of (by rw [← hr]; exact ih u hm v ok ok' s s' _ (hs2.bel (below_regrown wr d os)) (hs2'.bel (below_regrown wr d os)) (by omega))
          clear hr
          go_wp2_with fail
          refine wp_region_quiet_below (by kernel_rfl) (by kernel_rfl) ?_
          repeat (go_big_quiet_step ((go_at_call 28; exact CC.out _ _)))
          refine wpQuiet_nil ?_
          intro w1 hw'
          obtain ⟨p, hw''⟩ := hw'
          have hb1 : Below wr.heap.size wr w1 := by rw [hw'']; exact below_regrown _ _ _
          clear hw'' p q0 q1 p0 p1 m0 m1
          have hB1 : Below B w w1 := hbl.trans (hb1.mono (by have := hbl.size; omega))
          cases r
          · go_wp2
            go_ret
            exact ⟨ret_bool (by rw [HR.out]; exact (sameL_no _ _ _ _ _ HU.out HV.out HR2.out).symm), hB ▸ hB1⟩
          · go_wp2
            go_roundw
            case rel => exact ⟨k + 1, by omega, by go_num, HF.out.step HU.out HV.out HR2.out, hb.below hb1 hb.lt, hb'.below hb1 hb'.lt, hB1⟩
            case measure => simp [intOf]; omega
        · obtain rfl : k = ts.length := by omega
          go_wp2
          go_ret
          exact ⟨ret_bool (by rw [HR.out]; exact (sameL_of_up _ _ HLE.out fun i x y hx hy => HF.out i x y (List.getElem?_eq_some_iff.1 hx).1 hx hy).symm), hB ▸ hbl⟩
    · have z2 : ((ts.length : Int) != (us.length : Int)) = true := by simp; omega
      have HR : Hid (t.same t' = false) := by show _ = _; rw [HL.out, sameL_len _ _ hle]; simp
      clear HL hba hle
      go_enter Try.func28, Try.ntmps28
      go_wp2
      go_ret
      exact ⟨ret_bool HR.out.symm, hB ▸ ((Below.refl B w).alloc (by omega) _).alloc (by simp; omega) _⟩
  · have z1 : (t.base != t'.base) = true := by simp [hba]
    have HR : Hid (t.same t' = false) := by show _ = _; rw [HL.out]; simp [hba]
    clear HL hba
    go_enter Try.func28, Try.ntmps28
    go_wp2
    go_ret
    exact ⟨ret_bool HR.out.symm, hB ▸ ((Below.refl B w).alloc (by omega) _).alloc (by simp; omega) _⟩

end Go.Proofs.Ytckagmagjogmnaa
