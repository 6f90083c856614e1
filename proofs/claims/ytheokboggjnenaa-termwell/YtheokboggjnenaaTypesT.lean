/-
  The contracts of the law's Types and OfTypes: some types, there and back.
-/
import Derived.Test.YtheokboggjnenaaTo
namespace Go.Proofs.Ytheokboggjnenaa
open Go Go.RowKit

set_option maxRecDepth 100000 in
set_option maxHeartbeats 1600000 in
theorem TypesT_calls (ts : List Ty) (ok : Nat → Prop) (sl : Value) (w : World) (hh : Holds w ok ts sl) (hn : sizeL ts ≤ 1000000) :
    Calls Try.prog 33 #[sl] w fun e w' => ∃ v, e = .returned v ∧ Holds w' (fun b => w.heap.size ≤ b) ts v ∧ Below w.heap.size w w' := by
  obtain ⟨i0, hi, hz0, hz1, hz2⟩ := info_parts info29
  have hlen := sizeL_length ts
  have HZ : Hid (∀ t ∈ ts, t.size ≤ 1000000) := fun t ht => by have := size_mem ht; omega
  obtain ⟨a, cap, rfl, hcap, hat⟩ := hh.shape
  have HA : Hid _ := hat
  clear hat hh
  have hl2 : ts.length ≤ 1000000 := by omega
  clear hlen hn
  obtain ⟨N, hN⟩ : ∃ N, w.heap.size = N := ⟨_, rfl⟩
  rw [hN]
  go_enter Try.func33, Try.ntmps33
  go_wp2
  go_loopw [3, 4] (fun o i wr => ∃ (k : Nat) (vk : Value) (ps : List (Value × Ty)), k ≤ ts.length ∧ i = .int .i64 k ∧ o = vk ∧ Hid (ps.map (·.2) = ts.take k) ∧ Mk wr N 63 vk ps ∧ Below N w wr)
    (fun _ i _ => ts.length - (intOf i).toNat)
  case atStart => exact ⟨0, _, [], Nat.zero_le _, rfl, rfl, rfl, Mk.nil _ _ _, Below.refl _ _⟩
  case round =>
    obtain ⟨k, vk, ps, hk, rfl, rfl, HP, hmk, hbl⟩ := hrel
    have hpl : ps.length = k := by have := congrArg List.length HP.out; simp at this; omega
    have HKK : Hid (ps.length = k) := hpl
    clear hpl
    have hNw : N ≤ wr.heap.size := by have := hbl.size; omega
    by_cases hlt : k < ts.length
    · obtain ⟨u, hu⟩ : ∃ u, ts[k]? = some u := ⟨_, List.getElem?_eq_getElem hlt⟩
      obtain ⟨g, o, s, rfl, _, hg, a0, a1, hs⟩ := HA.out k u hu
      rw [hN] at hg
      have q0 := (cat hbl hg).trans a0
      have q1 := (cat hbl hg).trans a1
      have hm := List.mem_of_getElem? hu
      have hus := HZ.out u hm
      have y1 : (0 : Int) ≤ (k : Int) := by omega
      have y2 : (k : Int) < (ts.length : Int) := by omega
      have HP2 : Hid (ps.map (·.2) ++ [u] = ts.take (k + 1)) := by show _ = _; rw [HP.out, List.take_add_one, hu]; rfl
      have hs2 : Holds wr ok u.args s := hs.bel (by rw [hN]; exact hbl)
      have HL : Hid (∀ b, u3.ownBlock = some b → b < wr.heap.size) := fun b hb => (hmk.lt b hb).2
      clear a0 a1 hu hs HP
      go_wp2_with (first
        | (go_at_call 41; refine (To_calls u ok s _ hs2 hus).mono ?_; rintro e w2 ⟨v2, rfl, hv2, hbb⟩; obtain ⟨sa, sc, rfl, _⟩ := hv2.shape; generalize u.args.length = sn at *; have hmk2 := hmk.bel hbb; have hwz : wr.heap.size ≤ w2.heap.size := hbb.size)
        | (at_builtin; refine wpList_append_lies _ rfl _ _ 30 rfl N 63 i0 _ 2 32 Try.underlying30 hi hz0 hz1 hz2 rfl (by decide) _ k (pcells ps) rfl (by have := hmk2.row.alloc (.cells #[.slice sa sn sc, .int .i64 u.base] 63); rwa [HKK.out] at this) ⟨w2.heap.size, 0, none⟩ 1 1 [.slice sa sn sc, .int .i64 u.base] rfl rfl (cell_two_new _ _ _ _) (by simp [Value.oneCell']) (by omega) (by unfold maxLen; omega) (by omega) (by simp; omega) _ rfl ?_; intro g2 cap2 w3 hown3 hgrow3 hat3 hlt3))
      have hB2 : Below N w w2 := hbl.trans (hbb.mono hNw)
      have hB3 : Below N w w3 := (hB2.alloc (by omega) _).grown hgrow3 (by simp; omega) (fun j hj => (hmk2.lt j hj).1)
      have hmk3 := hmk2.snoc (cap := cap2) hv2 hNw HL.out hgrow3 hat3 (by rw [HKK.out]; exact hown3)
      rw [HKK.out] at hmk3
      exact ⟨⟨k + 1, _, ps ++ [(.slice sa sn sc, u)], by omega, by go_num, rfl, by show _ = _; rw [List.map_append]; exact HP2.out, hmk3, hB3⟩, by simp [intOf]; omega⟩
    · obtain rfl : k = ts.length := by omega
      have hh4 := hmk.holds
      rw [HP.out, List.take_length] at hh4
      go_wp2
      go_ret
      exact ⟨_, rfl, hh4, hbl⟩

set_option maxRecDepth 100000 in
set_option maxHeartbeats 1600000 in
theorem OfTypesT_calls (ts : List Ty) (ok : Nat → Prop) (sl : Value) (w : World) (hh : Holds w ok ts sl) (hn : sizeL ts ≤ 1000000) :
    Calls Try.prog 64 #[sl] w fun e w' => ∃ v, e = .returned v ∧ Holds w' (fun b => w.heap.size ≤ b) ts v ∧ Below w.heap.size w w' := by
  obtain ⟨i0, hi, hz0, hz1, hz2⟩ := info_parts info24
  have hlen := sizeL_length ts
  have HZ : Hid (∀ t ∈ ts, t.size ≤ 1000000) := fun t ht => by have := size_mem ht; omega
  obtain ⟨a, cap, rfl, hcap, hat⟩ := hh.shape
  have HA : Hid _ := hat
  clear hat hh
  have hl2 : ts.length ≤ 1000000 := by omega
  clear hlen hn
  obtain ⟨N, hN⟩ : ∃ N, w.heap.size = N := ⟨_, rfl⟩
  rw [hN]
  go_enter Try.func64, Try.ntmps64
  go_wp2
  go_loopw [3, 4] (fun o i wr => ∃ (k : Nat) (vk : Value) (ps : List (Value × Ty)), k ≤ ts.length ∧ i = .int .i64 k ∧ o = vk ∧ Hid (ps.map (·.2) = ts.take k) ∧ Mk wr N 55 vk ps ∧ Below N w wr)
    (fun _ i _ => ts.length - (intOf i).toNat)
  case atStart => exact ⟨0, _, [], Nat.zero_le _, rfl, rfl, rfl, Mk.nil _ _ _, Below.refl _ _⟩
  case round =>
    obtain ⟨k, vk, ps, hk, rfl, rfl, HP, hmk, hbl⟩ := hrel
    have hpl : ps.length = k := by have := congrArg List.length HP.out; simp at this; omega
    have HKK : Hid (ps.length = k) := hpl
    clear hpl
    have hNw : N ≤ wr.heap.size := by have := hbl.size; omega
    by_cases hlt : k < ts.length
    · obtain ⟨u, hu⟩ : ∃ u, ts[k]? = some u := ⟨_, List.getElem?_eq_getElem hlt⟩
      obtain ⟨g, o, s, rfl, _, hg, a0, a1, hs⟩ := HA.out k u hu
      rw [hN] at hg
      have q0 := (cat hbl hg).trans a0
      have q1 := (cat hbl hg).trans a1
      have hm := List.mem_of_getElem? hu
      have hus := HZ.out u hm
      have y1 : (0 : Int) ≤ (k : Int) := by omega
      have y2 : (k : Int) < (ts.length : Int) := by omega
      have HP2 : Hid (ps.map (·.2) ++ [u] = ts.take (k + 1)) := by show _ = _; rw [HP.out, List.take_add_one, hu]; rfl
      have hs2 : Holds wr ok u.args s := hs.bel (by rw [hN]; exact hbl)
      have HL : Hid (∀ b, u3.ownBlock = some b → b < wr.heap.size) := fun b hb => (hmk.lt b hb).2
      clear a0 a1 hu hs HP
      go_wp2_with (first
        | (go_at_call 39; refine (Of_calls u ok s _ hs2 hus).mono ?_; rintro e w2 ⟨v2, rfl, hv2, hbb⟩; obtain ⟨sa, sc, rfl, _⟩ := hv2.shape; generalize u.args.length = sn at *; have hmk2 := hmk.bel hbb; have hwz : wr.heap.size ≤ w2.heap.size := hbb.size)
        | (at_builtin; refine wpList_append_lies _ rfl _ _ 22 rfl N 55 i0 _ 2 32 Try.underlying22 hi hz0 hz1 hz2 rfl (by decide) _ k (pcells ps) rfl (by have := hmk2.row.alloc (.cells #[.slice sa sn sc, .int .i64 u.base] 55); rwa [HKK.out] at this) ⟨w2.heap.size, 0, none⟩ 1 1 [.slice sa sn sc, .int .i64 u.base] rfl rfl (cell_two_new _ _ _ _) (by simp [Value.oneCell']) (by omega) (by unfold maxLen; omega) (by omega) (by simp; omega) _ rfl ?_; intro g2 cap2 w3 hown3 hgrow3 hat3 hlt3))
      have hB2 : Below N w w2 := hbl.trans (hbb.mono hNw)
      have hB3 : Below N w w3 := (hB2.alloc (by omega) _).grown hgrow3 (by simp; omega) (fun j hj => (hmk2.lt j hj).1)
      have hmk3 := hmk2.snoc (cap := cap2) hv2 hNw HL.out hgrow3 hat3 (by rw [HKK.out]; exact hown3)
      rw [HKK.out] at hmk3
      exact ⟨⟨k + 1, _, ps ++ [(.slice sa sn sc, u)], by omega, by go_num, rfl, by show _ = _; rw [List.map_append]; exact HP2.out, hmk3, hB3⟩, by simp [intOf]; omega⟩
    · obtain rfl : k = ts.length := by omega
      have hh4 := hmk.holds
      rw [HP.out, List.take_length] at hh4
      go_wp2
      go_ret
      exact ⟨_, rfl, hh4, hbl⟩

end Go.Proofs.Ytheokboggjnenaa
