/-
  The contracts of the document's Number, Base, ConstOf and Fresh.
-/
import Derived.Test.YtdihplmlbfggjaaGreatDoorCands
import Derived.Test.YtdihplmlbfggjaaGreatDoorRefChk
import Derived.WalkSmall
import Derived.WalkLawsBesides
import Derived.Laws.BytesArg
namespace Go.Proofs.YtdihplmlbfggjaaGreatDoor
open Go Go.RowKit Go.Maps

/-- Where a name is among others, or that it isn't: -1. -/
def Found (l : List ByteArray) (s : ByteArray) (n : Int) : Prop := (∃ i : Nat, n = i ∧ l[i]? = some s ∧ NoneUp l s i) ∨ (n = -1 ∧ inB s l = false)
theorem Found.iff {l : List ByteArray} {s : ByteArray} {n : Int} (h : Found l s n) : decide (0 ≤ n) = inB s l := by
  rcases h with ⟨i, rfl, h1, _⟩ | ⟨rfl, h⟩
  · rw [(inB_iff s l).2 (List.mem_of_getElem? h1)]
    simp
  · rw [h]; rfl
theorem inB_names (s : ByteArray) (bs : List ByteArray) (cs : List Cn) : inB s (names bs cs) = (inB s bs || inB s (cs.map Cn.name)) := by
  unfold names inB; rw [List.any_append]
theorem NoneUp.end {l : List ByteArray} {s : ByteArray} (h : NoneUp l s l.length) : inB s l = false := by
  have := h.notin
  rwa [List.take_length] at this

set_option maxRecDepth 100000 in
set_option maxHeartbeats 800000 in
theorem refBase_calls (bs : List ByteArray) (s : ByteArray) (ok : Nat → Prop) (va : Value) (yb : Option Addr) (yn yc : Nat) (w : World) (hS : HoldsS w ok bs va) (hlen : bs.length ≤ 1000000) :
    Calls Tryz.prog 11 #[tab va (.slice yb yn yc), .string s] w fun e w' => ∃ n : Int, e = .returned (.int .i64 n) ∧ Found bs s n ∧ Below w.heap.size w w' := by
  obtain ⟨N, hN⟩ : ∃ N, w.heap.size = N := ⟨_, rfl⟩
  have hS' : HoldsS w (fun b => b < N) bs va := hS.mono fun b hb _ => by omega
  obtain ⟨a, cap, rfl, hcap, _, hat⟩ := hS'
  have HA : Hid _ := hat
  have HN : Hid (w.heap.size = N) := hN
  obtain ⟨nb, hnb⟩ : ∃ nb, bs.length = nb := ⟨_, rfl⟩
  have HNB : Hid (bs.length = nb) := hnb
  rw [hnb] at hcap hlen ⊢
  rw [hN]
  clear hat hS hnb
  obtain ⟨w0, hw0⟩ : ∃ w0, w.alloc (.cells #[.slice a nb cap, .slice yb yn yc] 25) = w0 := ⟨_, rfl⟩
  have b0 : Blk w0 N 25 #[.slice a nb cap, .slice yb yn yc] := by rw [← hw0]; exact Blk.new' w N 25 _ hN
  have bl0 : Below N w w0 := by rw [← hw0]; exact (Below.refl N w).alloc (by omega) _
  go_enter Tryz.func11, Tryz.ntmps11
  go_wp2_with fail
  clear hw0 hN
  go_loopw [5] (fun i wr => ∃ k : Nat, k ≤ nb ∧ i = .int .i64 k ∧ Hid (NoneUp bs s k) ∧ w0 = wr) (fun i _ => nb - (intOf i).toNat)
  case atStart => exact ⟨0, Nat.zero_le _, rfl, NoneUp.zero _ _, rfl⟩
  case round =>
    obtain ⟨k, hk, rfl, HF, rfl⟩ := hrel
    have r0 := b0.cell 0
    by_cases hlt : k < nb
    · obtain ⟨t, ht⟩ : ∃ t, bs[k]? = some t := ⟨_, List.getElem?_eq_getElem (by rw [HNB.out]; exact hlt)⟩
      obtain ⟨g, o, rfl, hg, q0⟩ := HA.out k t ht
      have q1 := (cat bl0 hg).trans q0
      have y1 : (0 : Int) ≤ (k : Int) := by omega
      have y2 : (k : Int) < (nb : Int) := by omega
      have z1 : decide ((k : Int) < (nb : Int)) = true := by simp; omega
      obtain ⟨d, hd⟩ : ∃ d, (t.toList == s.toList) = d := ⟨_, rfl⟩
      have HTS : Hid (t = s ↔ d = true) := by show _ ↔ _; rw [← hd]; exact (Lx.str_eq t s).symm
      have HT : Hid _ := ht
      clear ht q0
      cases d with
      | true =>
        go_wp2
        go_ret
        have hts : t = s := by first | exact HTS.out.2 rfl | exact HTS.out.2 trivial
        exact ⟨k, rfl, .inl ⟨k, rfl, by rw [← hts]; exact HT.out, HF.out⟩, bl0⟩
      | false =>
        have hts : t ≠ s := fun e => by have := HTS.out.1 e; cases this
        go_wp2
        go_roundw
        case rel => exact ⟨k + 1, by omega, by go_num, HF.out.step HT.out hts, by first | rfl | trivial⟩
        case measure => simp [intOf]; omega
    · obtain rfl : k = nb := by omega
      have z1 : decide ((k : Int) < (k : Int)) = false := by simp
      go_wp2
      go_ret
      exact ⟨-1, rfl, .inr ⟨rfl, NoneUp.end (by rw [HNB.out]; exact HF.out)⟩, bl0⟩

set_option maxRecDepth 100000 in
set_option maxHeartbeats 800000 in
theorem refConst_calls (cs : List Cn) (s : ByteArray) (ok : Nat → Prop) (vb : Value) (xb : Option Addr) (xn xc : Nat) (w : World) (hC : HoldsC w ok cs vb) (hlen : cs.length ≤ 1000000) :
    Calls Tryz.prog 12 #[tab (.slice xb xn xc) vb, .string s] w fun e w' => ∃ n : Int, e = .returned (.int .i64 n) ∧ Found (cs.map Cn.name) s n ∧ Below w.heap.size w w' := by
  obtain ⟨N, hN⟩ : ∃ N, w.heap.size = N := ⟨_, rfl⟩
  have hC' : HoldsC w (fun b => b < N) cs vb := hC.mono fun b hb _ => by omega
  obtain ⟨a, cap, rfl, hcap, _, hat⟩ := hC'
  have HA : Hid _ := hat
  have HN : Hid (w.heap.size = N) := hN
  obtain ⟨nb, hnb⟩ : ∃ nb, cs.length = nb := ⟨_, rfl⟩
  have HNB : Hid (cs.length = nb) := hnb
  rw [hnb] at hcap hlen ⊢
  rw [hN]
  clear hat hC hnb
  obtain ⟨w0, hw0⟩ : ∃ w0, w.alloc (.cells #[.slice xb xn xc, .slice a nb cap] 25) = w0 := ⟨_, rfl⟩
  have b0 : Blk w0 N 25 #[.slice xb xn xc, .slice a nb cap] := by rw [← hw0]; exact Blk.new' w N 25 _ hN
  have bl0 : Below N w w0 := by rw [← hw0]; exact (Below.refl N w).alloc (by omega) _
  go_enter Tryz.func12, Tryz.ntmps12
  go_wp2_with fail
  clear hw0 hN
  go_loopw [5] (fun i wr => ∃ k : Nat, k ≤ nb ∧ i = .int .i64 k ∧ Hid (NoneUp (cs.map Cn.name) s k) ∧ w0 = wr) (fun i _ => nb - (intOf i).toNat)
  case atStart => exact ⟨0, Nat.zero_le _, rfl, NoneUp.zero _ _, rfl⟩
  case round =>
    obtain ⟨k, hk, rfl, HF, rfl⟩ := hrel
    have r0 := b0.cell 1
    by_cases hlt : k < nb
    · obtain ⟨t, ht⟩ : ∃ t, cs[k]? = some t := ⟨_, List.getElem?_eq_getElem (by rw [HNB.out]; exact hlt)⟩
      obtain ⟨g, o, sx, rfl, hg, q0, _⟩ := HA.out k t ht
      have q1 := (cat bl0 hg).trans q0
      have y1 : (0 : Int) ≤ (k : Int) := by omega
      have y2 : (k : Int) < (nb : Int) := by omega
      have z1 : decide ((k : Int) < (nb : Int)) = true := by simp; omega
      obtain ⟨d, hd⟩ : ∃ d, (t.name.toList == s.toList) = d := ⟨_, rfl⟩
      have HTS : Hid (t.name = s ↔ d = true) := by show _ ↔ _; rw [← hd]; exact (Lx.str_eq t.name s).symm
      have HT : Hid ((cs.map Cn.name)[k]? = some t.name) := by show _ = _; rw [List.getElem?_map, ht]; rfl
      clear ht q0
      cases d with
      | true =>
        go_wp2
        go_ret
        have hts : t.name = s := by first | exact HTS.out.2 rfl | exact HTS.out.2 trivial
        exact ⟨k, rfl, .inl ⟨k, rfl, by rw [← hts]; exact HT.out, HF.out⟩, bl0⟩
      | false =>
        have hts : t.name ≠ s := fun e => by have := HTS.out.1 e; cases this
        go_wp2
        go_roundw
        case rel => exact ⟨k + 1, by omega, by go_num, HF.out.step HT.out hts, by first | rfl | trivial⟩
        case measure => simp [intOf]; omega
    · obtain rfl : k = nb := by omega
      have z1 : decide ((k : Int) < (k : Int)) = false := by simp
      go_wp2
      go_ret
      exact ⟨-1, rfl, .inr ⟨rfl, NoneUp.end (by rw [List.length_map, HNB.out]; exact HF.out)⟩, bl0⟩

end Go.Proofs.YtdihplmlbfggjaaGreatDoor
