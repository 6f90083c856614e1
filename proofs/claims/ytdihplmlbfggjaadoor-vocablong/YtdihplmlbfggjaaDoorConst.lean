/-
  The contracts of (*Index).Const and Has.
-/
import Derived.Test.YtdihplmlbfggjaaDoorNew
namespace Go.Proofs.YtdihplmlbfggjaaDoor
open Go Go.RowKit Go.Maps

theorem inB_false {s : ByteArray} {ms : List ByteArray} (h : inB s ms = false) : s ∉ ms := fun hm => by rw [(inB_iff s ms).2 hm] at h; cases h

/-- What an index says where there is none. -/
theorem Const_nil (s : ByteArray) (w : World) : Calls Tryd.prog 20 #[.pointer none, .string s] w fun e w' => e = .returned (.tuple #[.int .i64 0, .int .i64 13]) ∧ w = w' := by
  go_enter Tryd.func20, Tryd.ntmps20
  go_wp2
  refine bodyPost_ret (v := .tuple #[.int .i64 0, .int .i64 13]) (by simp [results, Tryd.results20, go_sem]) rfl ?_
  exact ⟨rfl, rfl⟩

set_option maxRecDepth 100000 in
set_option maxHeartbeats 1600000 in
theorem Const_calls (bs : List ByteArray) (cs : List Cn) (hT : RightT bs cs) (s : ByteArray) (hs : s.size ≤ 140737488355328) (B : Nat) (w : World) (hI : Ix w B bs cs) :
    Calls Tryd.prog 20 #[.pointer (some ⟨B, 0, none⟩), .string s] w fun e w' => ∃ c er : Int, e = .returned (.tuple #[.int .i64 c, .int .i64 er]) ∧ (∀ i : Nat, (cs.map Cn.name)[i]? = some s → c = (i : Int) ∧ er = 0) ∧ (s ∉ cs.map Cn.name → c = 0 ∧ er = 10) ∧ Ix w' B bs cs ∧ Only [B] w w' := by
  have hnot : ∀ (x : Bool) (w : World), (Op.unary .not (.bool x)).run Tryd.prog w = .ok (.bool (!x)) w := fun _ _ => rfl
  have hf := find_calls bs cs hT s hs B w hI
  have hln := hT.len
  clear hI
  by_cases hm : inB s (names bs cs) = true
  · obtain ⟨i, hi⟩ := List.getElem?_of_mem ((inB_iff _ _).1 hm)
    rw [hm] at hf
    obtain ⟨nb, hnb⟩ : ∃ nb, bs.length = nb := ⟨_, rfl⟩
    have hil := (List.getElem?_eq_some_iff.1 hi).1
    rw [names, List.length_append, List.length_map] at hil
    have HNB : Hid (bs.length = nb) := hnb
    rw [hnb] at hil hln
    by_cases hlt : i < nb
    · have HX : Hid (s ∉ cs.map Cn.name) := fun hmem => by
        rw [names, List.getElem?_append_left (by omega)] at hi
        have := (List.nodup_append.1 hT.nodup).2.2 s (List.mem_of_getElem? hi) s hmem
        exact this rfl
      have z1 : decide ((i : Int) < (nb : Int)) = true := by simp; omega
      clear hnb
      go_enter Tryd.func20, Tryd.ntmps20
      go_wp2_with (go_at_call 41; refine hf.mono ?_; rintro e w1 ⟨c, rfl, hc, hI, hO⟩; obtain rfl := hc i hi; have hI2 := hI; obtain ⟨va, vb, d, m, hB, hS, _⟩ := hI; obtain ⟨xa, xc, rfl, _⟩ := hS.shape; rw [HNB.out] at hB; have s0 := hB.cell 0; clear hc hB hS)
      refine bodyPost_ret (v := .tuple #[.int .i64 0, .int .i64 10]) (by simp [results, Tryd.results20, go_sem]) rfl ?_
      exact ⟨0, 10, rfl, fun j hj => absurd (List.mem_of_getElem? hj) HX.out, fun _ => ⟨rfl, rfl⟩, hI2, hO⟩
    · have HX : Hid ((cs.map Cn.name)[i - nb]? = some s) := by
        show _ = _
        rw [names, List.getElem?_append_right (by omega), hnb] at hi
        exact hi
      have HU : Hid (∀ j : Nat, (cs.map Cn.name)[j]? = some s → j = i - nb) := fun j hj => by
        have hd := (List.nodup_append.1 hT.nodup).2.1
        exact (List.getElem?_inj (List.getElem?_eq_some_iff.1 hj).1 hd).1 (hj.trans HX.out.symm)
      have z1 : decide ((i : Int) < (nb : Int)) = false := by simp; omega
      have HW : Hid (IntKind.i64.wrap ((i : Int) - (nb : Int)) = ((i - nb : Nat) : Int)) := by show _ = _; rw [IntKind.wrap_i64]; omega
      clear hnb
      go_enter Tryd.func20, Tryd.ntmps20
      go_wp2_with (go_at_call 41; refine hf.mono ?_; rintro e w1 ⟨c, rfl, hc, hI, hO⟩; obtain rfl := hc i hi; have hI2 := hI; obtain ⟨va, vb, d, m, hB, hS, _⟩ := hI; obtain ⟨xa, xc, rfl, _⟩ := hS.shape; rw [HNB.out] at hB; have s0 := hB.cell 0; clear hc hB hS)
      refine bodyPost_ret (v := .tuple #[.int .i64 (((i - nb : Nat)) : Int), .int .i64 0]) (by simp [results, Tryd.results20, go_sem]; omega) rfl ?_
      exact ⟨_, 0, rfl, fun j hj => ⟨by rw [HU.out j hj], rfl⟩, fun h => absurd (List.mem_of_getElem? HX.out) h, hI2, hO⟩
  · have hm' : inB s (names bs cs) = false := by simpa using hm
    have hX : s ∉ cs.map Cn.name := fun h => inB_false hm' (by rw [names]; exact List.mem_append_right _ h)
    rw [hm'] at hf
    go_enter Tryd.func20, Tryd.ntmps20
    go_wp2_with (go_at_call 41; refine hf.mono ?_; rintro e w1 ⟨c, rfl, hc, hI, hO⟩)
    refine bodyPost_ret (v := .tuple #[.int .i64 0, .int .i64 10]) (by simp [results, Tryd.results20, go_sem]) rfl ?_
    exact ⟨0, 10, rfl, fun j hj => absurd (List.mem_of_getElem? hj) hX, fun _ => ⟨rfl, rfl⟩, hI, hO⟩

end Go.Proofs.YtdihplmlbfggjaaDoor
