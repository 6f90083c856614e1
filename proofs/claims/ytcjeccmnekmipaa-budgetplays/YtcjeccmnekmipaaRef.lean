/-
  A contract for each function of the document's own budget.
-/
import Derived.Test.YtcjeccmnekmipaaBacks
namespace Go.Proofs.Ytcjeccmnekmipaa
open Go Go.RowKit

set_option maxHeartbeats 400000 in
theorem RefNew_any (n : Int) (w : World) :
    Calls Try.prog 9 #[.int .i64 n] w fun e w' => e = .returned (.pointer (some ⟨w.heap.size, 0, none⟩)) ∧ Refb w' w.heap.size (fresh n) ∧ Only [] w w' := by
  by_cases hn : n < 0
  · have ef : Hid (fresh n = ⟨0, 0, false⟩) := by unfold Hid fresh; rw [if_pos hn]
    go_enter Try.func9, Try.ntmps9
    go_wp2_with fail
    go_ret
    exact ⟨rfl, Refb.to (s := ⟨0, 0, false⟩) (Blk.new _ _ _) ef.out.symm, (Only.refl _ _).alloc _⟩
  · have ef : Hid (fresh n = ⟨n, 0, false⟩) := by unfold Hid fresh; rw [if_neg hn]
    go_enter Try.func9, Try.ntmps9
    go_wp2_with fail
    go_ret
    exact ⟨rfl, Refb.to (s := ⟨n, 0, false⟩) (Blk.new _ _ _) ef.out.symm, (Only.refl _ _).alloc _⟩

set_option maxHeartbeats 400000 in
theorem RefSpend_any (C : Nat) (s : St) (n : Int) (w : World) (h : Refb w C s) (hs : s.ok) :
    Calls Try.prog 11 #[.pointer (some ⟨C, 0, none⟩), .int .i64 n] w fun e w' => e = .returned (.bool (s.can n)) ∧ Refb w' C (s.spend n) ∧ Only [C] w w' := by
  by_cases hn : n < 0
  · rw [St.spend_neg s n hn, St.can_neg s n hn]
    go_enter Try.func11, Try.ntmps11
    go_wp2_with fail
    go_ret
    exact ⟨rfl, h, Only.refl _ _⟩
  have hn0 : 0 ≤ n := by omega
  obtain ⟨l, u, d⟩ := s
  obtain ⟨q1, q2, q3, q4⟩ := hs
  simp only at q1 q2 q3 q4
  have r0 : w.cell? ⟨C, 0, none⟩ = some (.int .i64 l) := Blk.cell h 0
  have r1 : w.cell? ⟨C, 1, none⟩ = some (.int .i64 u) := Blk.cell h 1
  have r2 : w.cell? ⟨C, 2, none⟩ = some (.bool d) := Blk.cell h 2
  have z0 := Blk.frozen h 0
  have z1 := Blk.frozen h 1
  have z2 := Blk.frozen h 2
  cases d
  · by_cases hl : l < n
    · rw [St.spend_more l u n hn0 hl, St.can_more l u false n hl]
      go_enter Try.func11, Try.ntmps11
      go_wp2_with fail
      go_region
      go_wp2_with fail
      go_ret
      exact ⟨rfl, Blk.drew (((Blk.set h 1 (.int .i64 (u + l))).set 0 (.int .i64 0)).set 2 (.bool true)), ((((Only.refl [C] w).set (List.mem_singleton_self _) 1 _).set (List.mem_singleton_self _) 0 _).set (List.mem_singleton_self _) 2 _).drew⟩
    · rw [St.spend_can l u n hn0 (by omega), St.can_can l u n hn0 (by omega)]
      go_enter Try.func11, Try.ntmps11
      go_wp2_with fail
      go_ret
      exact ⟨rfl, (Blk.set h 0 (.int .i64 (l - n))).set 1 (.int .i64 (u + n)), ((Only.refl [C] w).set (List.mem_singleton_self _) 0 _).set (List.mem_singleton_self _) 1 _⟩
  · rw [St.spend_dry l u n hn0, St.can_dry l u n]
    go_enter Try.func11, Try.ntmps11
    go_wp2_with fail
    go_region
    go_wp2_with fail
    go_ret
    exact ⟨rfl, Blk.drew (((Blk.set h 1 (.int .i64 (u + l))).set 0 (.int .i64 0)).set 2 (.bool true)), ((((Only.refl [C] w).set (List.mem_singleton_self _) 1 _).set (List.mem_singleton_self _) 0 _).set (List.mem_singleton_self _) 2 _).drew⟩

set_option maxHeartbeats 400000 in
/-- of as many as there are, or all -/
theorem RefSplit_of (C : Nat) (l u : Int) (d : Bool) (n m : Int) (w : World) (h : Refb w C ⟨l, u, d⟩) (hs : (⟨l, u, d⟩ : St).ok) (hm : St.some ⟨l, u, d⟩ n = m) :
    Calls Try.prog 13 #[.pointer (some ⟨C, 0, none⟩), .int .i64 n] w fun e w' => e = .returned (.pointer (some ⟨w.heap.size, 0, none⟩)) ∧ Refb w' C ⟨l - m, u + m, d⟩ ∧ Refb w' w.heap.size ⟨m, 0, false⟩ ∧ Only [C] w w' := by
  have hlt := h.lt
  obtain ⟨q1, q2, q3, q4⟩ := hs
  simp only at q1 q2 q3 q4
  have r0 : w.cell? ⟨C, 0, none⟩ = some (.int .i64 l) := Blk.cell h 0
  have r1 : w.cell? ⟨C, 1, none⟩ = some (.int .i64 u) := Blk.cell h 1
  have z0 := Blk.frozen h 0
  have z1 := Blk.frozen h 1
  unfold St.some at hm
  have fin : ∀ x y : Int, Refb (((w.setCell ⟨C, 0, none⟩ (.int .i64 x)).setCell ⟨C, 1, none⟩ (.int .i64 y)).alloc (.cells #[.int .i64 m, .int .i64 0, .bool false] 63)) C ⟨x, y, d⟩ ∧
      Refb (((w.setCell ⟨C, 0, none⟩ (.int .i64 x)).setCell ⟨C, 1, none⟩ (.int .i64 y)).alloc (.cells #[.int .i64 m, .int .i64 0, .bool false] 63)) w.heap.size ⟨m, 0, false⟩ ∧
      Only [C] w (((w.setCell ⟨C, 0, none⟩ (.int .i64 x)).setCell ⟨C, 1, none⟩ (.int .i64 y)).alloc (.cells #[.int .i64 m, .int .i64 0, .bool false] 63)) := fun x y =>
    ⟨Blk.alloc ((Blk.set h 0 (.int .i64 x)).set 1 (.int .i64 y)) _, Blk.new' _ _ _ _ (by simp [World.setCell]), (((Only.refl [C] w).set (List.mem_singleton_self _) 0 _).set (List.mem_singleton_self _) 1 _).alloc _⟩
  by_cases hn : n < 0
  · rw [if_pos hn] at hm
    subst hm
    have hl : ¬ (0 > l) := by omega
    go_enter Try.func13, Try.ntmps13
    go_wp2_with fail
    go_ret
    exact ⟨rfl, fin l u⟩
  · rw [if_neg hn] at hm
    by_cases hl : l < n
    · rw [if_pos hl] at hm
      subst hm
      have hl' : n > l := hl
      go_enter Try.func13, Try.ntmps13
      go_wp2_with fail
      go_ret
      exact ⟨rfl, fin 0 (u + l)⟩
    · rw [if_neg hl] at hm
      subst hm
      have hl' : ¬ (n > l) := by omega
      go_enter Try.func13, Try.ntmps13
      go_wp2_with fail
      go_ret
      exact ⟨rfl, fin (l - n) (u + n)⟩

theorem RefSplit_any (C : Nat) (s : St) (n : Int) (w : World) (h : Refb w C s) (hs : s.ok) :
    Calls Try.prog 13 #[.pointer (some ⟨C, 0, none⟩), .int .i64 n] w fun e w' => ∃ D, w.heap.size ≤ D ∧ e = .returned (.pointer (some ⟨D, 0, none⟩)) ∧ Refb w' C (s.less n) ∧ Refb w' D ⟨s.some n, 0, false⟩ ∧ Only [C] w w' := by
  obtain ⟨l, u, d⟩ := s
  refine (RefSplit_of C l u d n _ w h hs rfl).mono ?_
  rintro e w' ⟨rfl, h1, h2, h3⟩
  exact ⟨_, Nat.le_refl _, rfl, h1, h2, h3⟩

set_option maxHeartbeats 1000000 in
theorem RefBack_any (C D : Nat) (s o : St) (w : World) (h : Refb w C s) (hD : Refb w D o) (hne : C ≠ D) (hs : s.ok) (ho : o.ok) :
    Calls Try.prog 15 #[.pointer (some ⟨C, 0, none⟩), .pointer (some ⟨D, 0, none⟩)] w fun e w' => e = .returned (.tuple #[]) ∧ Refb w' C (s.more o) ∧ Refb w' D o.gone ∧ Only [C, D] w w' := by
  obtain ⟨l, u, d⟩ := s
  obtain ⟨p, q, e⟩ := o
  obtain ⟨q1, q2, q3, q4⟩ := hs
  obtain ⟨p1, p2, p3, p4⟩ := ho
  simp only at q1 q2 q3 q4 p1 p2 p3 p4
  have r0 : w.cell? ⟨C, 0, none⟩ = some (.int .i64 l) := Blk.cell h 0
  have r1 : w.cell? ⟨C, 1, none⟩ = some (.int .i64 u) := Blk.cell h 1
  have r2 : w.cell? ⟨C, 2, none⟩ = some (.bool d) := Blk.cell h 2
  have t0 : w.cell? ⟨D, 0, none⟩ = some (.int .i64 p) := Blk.cell hD 0
  have t1 : w.cell? ⟨D, 1, none⟩ = some (.int .i64 q) := Blk.cell hD 1
  have t2 : w.cell? ⟨D, 2, none⟩ = some (.bool e) := Blk.cell hD 2
  have z0 := Blk.frozen h 0
  have z1 := Blk.frozen h 1
  have z2 := Blk.frozen h 2
  have y0 := Blk.frozen hD 0
  have y1 := Blk.frozen hD 1
  have hne' : ¬ C = D := hne
  have hne2 : ¬ D = C := fun e => hne e.symm
  have fC : ∀ b : Bool, Refb ((((((w.setCell ⟨C, 0, none⟩ (.int .i64 (l + p))).setCell ⟨C, 1, none⟩ (.int .i64 (u - p))).setCell ⟨D, 1, none⟩ (.int .i64 (q + p))).setCell ⟨D, 0, none⟩ (.int .i64 0)).setCell ⟨C, 2, none⟩ (.bool b)).drew.drew.drew) C ⟨l + p, u - p, b⟩ := fun b =>
    Blk.drew (Blk.drew (Blk.drew (((((Blk.set h 0 (.int .i64 (l + p))).set 1 (.int .i64 (u - p))).other hne 1 _).other hne 0 _).set 2 (.bool b))))
  have fD : ∀ b : Bool, Refb ((((((w.setCell ⟨C, 0, none⟩ (.int .i64 (l + p))).setCell ⟨C, 1, none⟩ (.int .i64 (u - p))).setCell ⟨D, 1, none⟩ (.int .i64 (q + p))).setCell ⟨D, 0, none⟩ (.int .i64 0)).setCell ⟨C, 2, none⟩ (.bool b)).drew.drew.drew) D ⟨0, q + p, e⟩ := fun b =>
    Blk.drew (Blk.drew (Blk.drew (((((Blk.other hD hne2 0 _).other hne2 1 _).set 1 (.int .i64 (q + p))).set 0 (.int .i64 0)).other hne2 2 _)))
  have fO : ∀ b : Bool, Only [C, D] w ((((((w.setCell ⟨C, 0, none⟩ (.int .i64 (l + p))).setCell ⟨C, 1, none⟩ (.int .i64 (u - p))).setCell ⟨D, 1, none⟩ (.int .i64 (q + p))).setCell ⟨D, 0, none⟩ (.int .i64 0)).setCell ⟨C, 2, none⟩ (.bool b)).drew.drew.drew) := fun b =>
    ((((((((Only.refl [C, D] w).set (by simp) 0 _).set (by simp) 1 _).set (by simp) 1 _).set (by simp) 0 _).set (by simp) 2 _).drew).drew).drew
  cases d
  · go_enter Try.func15, Try.ntmps15
    go_wp2_with fail
    go_region
    go_wp2_with fail
    go_region
    go_wp2_with fail
    go_region
    go_wp2_with fail
    go_end0
    exact ⟨rfl, (fC e).to (by unfold St.more; exact St.eq rfl rfl (by simp)), fD e, fO e⟩
  · go_enter Try.func15, Try.ntmps15
    go_wp2_with fail
    go_region
    go_wp2_with fail
    go_region
    go_wp2_with fail
    go_region
    go_wp2_with fail
    go_end0
    exact ⟨rfl, (fC true).to (by unfold St.more; exact St.eq rfl rfl (by simp)), fD true, fO true⟩

end Go.Proofs.Ytcjeccmnekmipaa
