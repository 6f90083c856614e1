/-
  The contract of (*Index).Has.
-/
import Derived.Test.YtdihplmlbfggjaaDoorConst
namespace Go.Proofs.YtdihplmlbfggjaaDoor
open Go Go.RowKit Go.Maps

/-- Where there is no index: each of no names is one. -/
theorem Has_nil0 (w : World) : Calls Tryd.prog 18 #[.pointer none, .slice none 0 0] w fun e w' => e = .returned (.bool true) ∧ w = w' := by
  have z0 : decide ((0 : Int) < (0 : Int)) = false := by simp
  go_enter Tryd.func18, Tryd.ntmps18
  go_wp2
  go_loopw [11] (fun i wr => i = .int .i64 0 ∧ w = wr) (fun _ _ => 1)
  case atStart => exact ⟨rfl, rfl⟩
  case round =>
    obtain ⟨rfl, rfl⟩ := hrel
    go_wp2
    go_ret
    exact ⟨rfl, rfl⟩
/-- Where there is no index: a name is none. -/
theorem Has_nil1 (g : Nat) (s : ByteArray) (w : World) (hc : w.cell? ⟨g, 0, none⟩ = some (.string s)) : Calls Tryd.prog 18 #[.pointer none, .slice (some ⟨g, 0, none⟩) 1 1] w fun e w' => e = .returned (.bool false) ∧ w = w' := by
  have z0 : decide ((0 : Int) < (1 : Int)) = true := by simp
  go_enter Tryd.func18, Tryd.ntmps18
  go_wp2
  go_loopw [11] (fun i wr => i = .int .i64 0 ∧ w = wr) (fun _ _ => 1)
  case atStart => exact ⟨rfl, rfl⟩
  case round =>
    obtain ⟨rfl, rfl⟩ := hrel
    go_wp2
    go_ret
    exact ⟨rfl, rfl⟩

set_option maxRecDepth 100000 in
set_option maxHeartbeats 1600000 in
theorem Has_calls (bs : List ByteArray) (cs : List Cn) (hT : RightT bs cs) (qs : List ByteArray) (fq : FitS qs) (ok : Nat → Prop) (v : Value) (B : Nat) (w : World) (hI : Ix w B bs cs) (hQ : HoldsS w ok qs v) (hok : ¬ ok B) (hql : qs.length ≤ 1000000) :
    Calls Tryd.prog 18 #[.pointer (some ⟨B, 0, none⟩), v] w fun e w' => e = .returned (.bool (qs.all fun s => inB s (names bs cs))) ∧ Ix w' B bs cs ∧ Only [B] w w' := by
  have hnot : ∀ (x : Bool) (w : World), (Op.unary .not (.bool x)).run Tryd.prog w = .ok (.bool (!x)) w := fun _ _ => rfl
  have hQ' : HoldsS w (fun b => b < w.heap.size ∧ b ≠ B) qs v := hQ.mono fun b hb ho => ⟨hb, fun e => hok (e ▸ ho)⟩
  obtain ⟨a, cap, rfl, hcap, hnil, hat⟩ := hQ'
  have HA : Hid _ := hat
  obtain ⟨n, hn⟩ : ∃ n, qs.length = n := ⟨_, rfl⟩
  have HN : Hid (qs.length = n) := hn
  rw [hn] at hcap hql ⊢
  clear hat hn hnil hQ
  have O0 := Only.refl [B] w
  go_enter Tryd.func18, Tryd.ntmps18
  go_wp2
  go_loopw [11] (fun i wr => ∃ k : Nat, k ≤ n ∧ i = .int .i64 k ∧ Ix wr B bs cs ∧ Only [B] w wr ∧ Hid (∀ j s, j < k → qs[j]? = some s → inB s (names bs cs) = true)) (fun i _ => n - (intOf i).toNat)
  case atStart => exact ⟨0, Nat.zero_le _, rfl, hI, O0, fun j s h => absurd h (Nat.not_lt_zero _)⟩
  case round =>
    clear hI O0
    obtain ⟨k, hk, rfl, hI, O0, HK⟩ := hrel
    by_cases hlt : k < n
    · obtain ⟨s, hs⟩ : ∃ s, qs[k]? = some s := ⟨_, List.getElem?_eq_getElem (by rw [HN.out]; exact hlt)⟩
      obtain ⟨g, o, rfl, ⟨hg, hgB⟩, q0⟩ := HA.out k s hs
      have q1 := (O0.cell (p := ⟨g, o + k, none⟩) hg (by simpa using hgB)).trans q0
      have y1 : (0 : Int) ≤ (k : Int) := by omega
      have y2 : (k : Int) < (n : Int) := by omega
      have z1 : decide ((k : Int) < (n : Int)) = true := by simp; omega
      have hf := find_calls bs cs hT s (fq s (List.mem_of_getElem? hs)) B wr hI
      obtain ⟨b, hb⟩ : ∃ b, inB s (names bs cs) = b := ⟨_, rfl⟩
      rw [hb] at hf
      have HB : Hid (inB s (names bs cs) = b) := hb
      have HS : Hid (qs[k]? = some s) := hs
      clear hb hs q0 hI
      cases b
      · go_wp2_with (go_at_call 41; refine hf.mono ?_; rintro e w1 ⟨c, rfl, _, hI, hO⟩)
        go_ret
        refine ⟨?_, hI, O0.trans hO⟩
        rw [show (qs.all fun s => inB s (names bs cs)) = false from List.all_eq_false.2 ⟨s, List.mem_of_getElem? HS.out, by rw [HB.out]; simp⟩]
        rfl
      · go_wp2_with (go_at_call 41; refine hf.mono ?_; rintro e w1 ⟨c, rfl, _, hI, hO⟩)
        refine ⟨⟨k + 1, by omega, by go_num, hI, O0.trans hO, fun j t hj ht => ?_⟩, by simp [intOf]; omega⟩
        by_cases hjk : j < k
        · exact HK.out j t hjk ht
        · obtain rfl : j = k := by omega
          have := HS.out.symm.trans ht
          cases this
          exact HB.out
    · obtain rfl : k = n := by omega
      have z1 : decide ((k : Int) < (k : Int)) = false := by simp
      go_wp2
      go_ret
      refine ⟨?_, hI, O0⟩
      have hall : (qs.all fun s => inB s (names bs cs)) = true := List.all_eq_true.2 fun s hs => by
        obtain ⟨j, hj⟩ := List.getElem?_of_mem hs
        exact HK.out j s (by have := (List.getElem?_eq_some_iff.1 hj).1; rw [HN.out] at this; exact this) hj
      rw [hall]
      rfl

end Go.Proofs.YtdihplmlbfggjaaDoor
