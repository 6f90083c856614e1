/-
  The contract of the law's all: some types, told in memory of their own.
-/
import Derived.Test.YthcncdihgghbjaaParts
namespace Go.Proofs.Ythcncdihgghbjaa
open Go Go.RowKit Go.Shelf

set_option maxRecDepth 100000 in
set_option maxHeartbeats 3200000 in
theorem all_calls (ts : List Ty) (ok : Nat → Prop) (sl : Value) (w : World) (hh : Holds w ok ts sl) (hn : ts.length ≤ 20) (hsz : ∀ t ∈ ts, t.size ≤ 1000000) :
    Calls Try.prog 24 #[sl] w fun e w' => ∃ v, e = .returned v ∧ Holds w' (fun b => w.heap.size ≤ b) ts v ∧ Below w.heap.size w w' := by
  obtain ⟨i0, hi, hz0, hz1, hz2⟩ := info_parts info29
  obtain ⟨a, cap, rfl, hcap, hat⟩ := hh.shape
  have HA : Hid _ := hat
  have HZ : Hid _ := hsz
  clear hat hh hsz
  obtain ⟨N, hN⟩ : ∃ N, w.heap.size = N := ⟨_, rfl⟩
  rw [hN]
  go_enter Try.func24, Try.ntmps24
  go_wp2
  go_loopw [3, 4] (fun o i wr => ∃ (k : Nat) (vk : Value) (ps : List (Value × Ty)), k ≤ ts.length ∧ i = .int .i64 k ∧ o = vk ∧ Hid (ps.map (·.2) = ts.take k) ∧ Mk wr N 29 vk ps ∧ Below N w wr)
    (fun _ i _ => ts.length - (intOf i).toNat)
  case atStart => exact ⟨0, _, [], Nat.zero_le _, rfl, rfl, rfl, Mk.nil _ _ _, Below.refl _ _⟩
  case round =>
    obtain ⟨k, vk, ps, hk, rfl, rfl, HP, hmk, hbl⟩ := hrel
    have hpl : ps.length = k := by have := congrArg List.length HP.out; simp at this; omega
    have HKK : Hid (ps.length = k) := hpl
    clear hpl
    have hNw : N ≤ wr.heap.size := by have := hbl.size; omega
    by_cases hlt : k < ts.length
    · obtain ⟨u, hu⟩ : ∃ u, ts[k]? = some u := ⟨_, List.getElem?_eq_getElem hlt⟩
      obtain ⟨g, o, s, rfl, _, hg, a0, a1, hs⟩ := HA.out k u hu
      rw [hN] at hg
      have q0 := (cat hbl hg).trans a0
      have q1 := (cat hbl hg).trans a1
      have hm := List.mem_of_getElem? hu
      have hus := HZ.out u hm
      have y1 : (0 : Int) ≤ (k : Int) := by omega
      have y2 : (k : Int) < (ts.length : Int) := by omega
      have y3 : decide ((k : Int) < 20) = true := by simp; omega
      have HP2 : Hid (ps.map (·.2) ++ [u] = ts.take (k + 1)) := by show _ = _; rw [HP.out, List.take_add_one, hu]; rfl
      have hs2 : Holds wr ok u.args s := hs.bel (by rw [hN]; exact hbl)
      have HL : Hid (∀ b, u3.ownBlock = some b → b < wr.heap.size) := fun b hb => (hmk.lt b hb).2
      clear a0 a1 hu hs HP
      go_wp2_with (first
        | (go_at_call 10; refine (To_calls u ok s _ hs2 hus).mono ?_; rintro e w2 ⟨v2, rfl, hv2, hbb⟩; obtain ⟨sa, sc, rfl, _⟩ := hv2.shape; generalize u.args.length = sn at *; have hmk2 := hmk.bel hbb; have hwz : wr.heap.size ≤ w2.heap.size := hbb.size)
        | (at_builtin; refine wpList_append_lies _ rfl _ _ 27 rfl N 29 i0 _ 2 32 Try.underlying27 hi hz0 hz1 hz2 rfl (by decide) _ k (pcells ps) rfl (by have := hmk2.row.alloc (.cells #[.slice sa sn sc, .int .i64 u.base] 29); rwa [HKK.out] at this) ⟨w2.heap.size, 0, none⟩ 1 1 [.slice sa sn sc, .int .i64 u.base] rfl rfl (cell_two_new _ _ _ _) (by simp [Value.oneCell']) (by omega) (by unfold maxLen; omega) (by omega) (by simp; omega) _ rfl ?_; intro g2 cap2 w3 hown3 hgrow3 hat3 hlt3))
      have hB2 : Below N w w2 := hbl.trans (hbb.mono hNw)
      have hB3 : Below N w w3 := (hB2.alloc (by omega) _).grown hgrow3 (by simp; omega) (fun j hj => (hmk2.lt j hj).1)
      have hmk3 := hmk2.snoc (cap := cap2) hv2 hNw HL.out hgrow3 hat3 (by rw [HKK.out]; exact hown3)
      rw [HKK.out] at hmk3
      exact ⟨⟨k + 1, _, ps ++ [(.slice sa sn sc, u)], by omega, by go_num, rfl, by show _ = _; rw [List.map_append]; exact HP2.out, hmk3, hB3⟩, by simp [intOf]; omega⟩
    · obtain rfl : k = ts.length := by omega
      have hh4 := hmk.holds
      rw [HP.out, List.take_length] at hh4
      go_wp2
      go_ret
      exact ⟨_, rfl, hh4, hbl⟩

end Go.Proofs.Ythcncdihgghbjaa
