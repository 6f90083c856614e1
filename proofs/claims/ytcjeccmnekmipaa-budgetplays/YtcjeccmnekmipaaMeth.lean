/-
  A contract for each method of a budget: what it answers, what the budget has then, and that nothing else has turned.
-/
import Derived.Test.YtcjeccmnekmipaaOnce
namespace Go.Proofs.Ytcjeccmnekmipaa
open Go Go.RowKit

theorem Bud.lt {W : World} {B : Nat} {s : St} (h : Bud W B s) : B < W.heap.size := Blk.lt h
theorem Bud.only {S : List Nat} {W W' : World} {B : Nat} {s : St} (h : Bud W B s) (hk : Only S W W') (hB : B ∉ S) : Bud W' B s := Blk.only h hk hB
theorem Refb.lt {W : World} {B : Nat} {s : St} (h : Refb W B s) : B < W.heap.size := Blk.lt h
theorem Refb.only {S : List Nat} {W W' : World} {B : Nat} {s : St} (h : Refb W B s) (hk : Only S W W') (hB : B ∉ S) : Refb W' B s := Blk.only h hk hB

set_option maxRecDepth 100000 in
set_option maxHeartbeats 1600000 in
/-- runDry, the first time. -/
theorem runDry_first (B : Nat) (l u : Int) (w : World) (h : Bud w B ⟨l, u, false⟩) :
    Calls Try.prog 25 #[.pointer (some ⟨B, 0, none⟩)] w fun e w' => e = .returned (.tuple #[]) ∧ Bud w' B ⟨l, u, true⟩ ∧ Only [B] w w' := by
  have hmf : ∀ (fn : Fn) (first cap : Array Value) (w : World), (Instr.makeFunc fn first cap).run Try.prog w = .ok (.func fn first cap) w := fun _ _ _ _ => rfl
  have hlt := h.lt
  have p0 : (w.alloc (.cells #[.pointer (some ⟨B, 0, none⟩)] 24)).cell? ⟨w.heap.size, 0, none⟩ = some (.pointer (some ⟨B, 0, none⟩)) := by simp
  have h' : Bud (w.alloc (.cells #[.pointer (some ⟨B, 0, none⟩)] 24)) B ⟨l, u, false⟩ := Blk.alloc h _
  have a0 := Blk.cell h' 2
  have a1 := Blk.cell h' 3
  have a3 := Blk.cell h' 5
  have z0 := Blk.frozen h' 2
  have z1 := Blk.frozen h' 3
  have z3 := Blk.frozen h' 5
  have hE : Bud (((((w.alloc (.cells #[.pointer (some ⟨B, 0, none⟩)] 24)).setCell ⟨B, 3, none⟩ (.int .i32 1)).setCell ⟨B, 5, none⟩ (.int .u32 1)).drew.drew.setCell ⟨B, 2, none⟩ (.int .u32 1)).setCell ⟨B, 3, none⟩ (.int .i32 0)) B ⟨l, u, true⟩ := by
    have := ((((Blk.set h' 3 (.int .i32 1)).set 5 (.int .u32 1)).drew.drew.set 2 (.int .u32 1)).set 3 (.int .i32 0))
    exact this
  have oE : Only [B] w (((((w.alloc (.cells #[.pointer (some ⟨B, 0, none⟩)] 24)).setCell ⟨B, 3, none⟩ (.int .i32 1)).setCell ⟨B, 5, none⟩ (.int .u32 1)).drew.drew.setCell ⟨B, 2, none⟩ (.int .u32 1)).setCell ⟨B, 3, none⟩ (.int .i32 0)) :=
    (((((((Only.refl [B] w).alloc _).set (List.mem_singleton_self _) 3 _).set (List.mem_singleton_self _) 5 _).drew).drew).set (List.mem_singleton_self _) 2 _).set (List.mem_singleton_self _) 3 _
  clear h h'
  simp only [flag_f, List.getElem?_toArray, List.getElem?_cons_succ, List.getElem?_cons_zero] at a0 a1 a3
  go_enter Try.func25, Try.ntmps25
  go_wp2_with (go_at_call 32; refine (do_first B ⟨w.heap.size, 0, none⟩ (by simp; omega) _ _ p0 a0 a1 a3 z0 z1 z3).mono ?_; rintro e w' ⟨rfl, hw⟩; rw [← hw] at hE oE; clear hw)
  go_end0
  exact ⟨rfl, hE, oE⟩

set_option maxHeartbeats 400000 in
/-- runDry, done already. -/
theorem runDry_again (B : Nat) (l u : Int) (w : World) (h : Bud w B ⟨l, u, true⟩) :
    Calls Try.prog 25 #[.pointer (some ⟨B, 0, none⟩)] w fun e w' => e = .returned (.tuple #[]) ∧ Bud w' B ⟨l, u, true⟩ ∧ Only [B] w w' := by
  have hmf : ∀ (fn : Fn) (first cap : Array Value) (w : World), (Instr.makeFunc fn first cap).run Try.prog w = .ok (.func fn first cap) w := fun _ _ _ _ => rfl
  have hlt := h.lt
  have h' : Bud (w.alloc (.cells #[.pointer (some ⟨B, 0, none⟩)] 24)) B ⟨l, u, true⟩ := Blk.alloc h _
  have a0 := Blk.cell h' 2
  have oE := ((Only.refl [B] w).alloc (.cells #[.pointer (some ⟨B, 0, none⟩)] 24))
  simp only [flag_t, List.getElem?_toArray, List.getElem?_cons_succ, List.getElem?_cons_zero] at a0
  go_enter Try.func25, Try.ntmps25
  go_wp2_with (go_at_call 32; refine (do_done ⟨B, 2, none⟩ _ _ a0).mono ?_; rintro e w' ⟨rfl, rfl⟩)
  go_end0
  exact ⟨rfl, h', oE⟩

theorem runDry_any (B : Nat) (s : St) (w : World) (h : Bud w B s) :
    Calls Try.prog 25 #[.pointer (some ⟨B, 0, none⟩)] w fun e w' => e = .returned (.tuple #[]) ∧ Bud w' B ⟨s.l, s.u, true⟩ ∧ Only [B] w w' := by
  obtain ⟨l, u, d⟩ := s
  cases d
  · exact runDry_first B l u w h
  · exact runDry_again B l u w h

theorem Bud.c0 {w : World} {B : Nat} {s : St} (h : Bud w B s) : w.cell? ⟨B, 0, none⟩ = some (.int .i64 s.l) := Blk.cell h 0
theorem Bud.c1 {w : World} {B : Nat} {s : St} (h : Bud w B s) : w.cell? ⟨B, 1, none⟩ = some (.int .i64 s.u) := Blk.cell h 1
theorem Bud.c5 {w : World} {B : Nat} {s : St} (h : Bud w B s) : w.cell? ⟨B, 5, none⟩ = some (.int .u32 (flag s.d)) := Blk.cell h 5
theorem Bud.fz {w : World} {B : Nat} {s : St} (h : Bud w B s) (i : Nat) : w.frozen? ⟨B, i, none⟩ = false := Blk.frozen h i
theorem Bud.setL {w : World} {B : Nat} {s : St} (h : Bud w B s) (x : Int) : Bud (w.setCell ⟨B, 0, none⟩ (.int .i64 x)) B ⟨x, s.u, s.d⟩ := Blk.set h 0 (.int .i64 x)
theorem Bud.setU {w : World} {B : Nat} {s : St} (h : Bud w B s) (x : Int) : Bud (w.setCell ⟨B, 1, none⟩ (.int .i64 x)) B ⟨s.l, x, s.d⟩ := Blk.set h 1 (.int .i64 x)
theorem Only.one {w w' : World} {B i : Nat} {v : Value} (h : w' = w.setCell ⟨B, i, none⟩ v) : Only [B] w w' := h ▸ (Only.refl [B] w).set (List.mem_singleton_self _) i v
theorem ret_int {k : IntKind} {a b : Int} (h : a = b) : Ending.returned (.int k a) = .returned (.int k b) := by rw [h]
theorem ret_bool {a b : Bool} (h : a = b) : Ending.returned (.bool a) = .returned (.bool b) := by rw [h]
theorem Bud.to {w : World} {B : Nat} {s t : St} (h : Bud w B s) (e : s = t) : Bud w B t := e ▸ h
theorem Refb.to {w : World} {B : Nat} {s t : St} (h : Refb w B s) (e : s = t) : Refb w B t := e ▸ h
theorem St.eq {l u l' u' : Int} {d d' : Bool} (h1 : l = l') (h2 : u = u') (h3 : d = d') : (⟨l, u, d⟩ : St) = ⟨l', u', d'⟩ := by rw [h1, h2, h3]

set_option maxHeartbeats 400000 in
/-- take: n units, or all that are left. -/
theorem take_any (B : Nat) (s : St) (n : Int) (w : World) (h : Bud w B s) (hs : s.ok) (hn : 0 ≤ n) :
    Calls Try.prog 24 #[.pointer (some ⟨B, 0, none⟩), .int .i64 n] w fun e w' => e = .returned (.int .i64 (s.some n)) ∧ Bud w' B (s.less n) ∧ Only [B] w w' := by
  obtain ⟨l, u, d⟩ := s
  obtain ⟨s1, s2, s3, s4⟩ := hs
  simp only at s1 s2 s3 s4
  have hlt := h.lt
  have a0 := h.c0
  have z0 := h.fz 0
  by_cases hl : l < n
  · have e0 : Hid (St.some ⟨l, u, d⟩ n = l) := by unfold Hid St.some; rw [if_neg (by omega), if_pos hl]
    go_enter Try.func24, Try.ntmps24
    go_wp2_with fail
    go_loop [5] (fun _ => True) (fun _ => 1)
    case atStart => trivial
    case round =>
      clear hrel
      go_wp2_with (go_at_call 27; refine (int_load _ l _ a0).mono ?_; rintro e w' ⟨rfl, rfl⟩)
      refine (int_swap _ l 0 _ a0 z0).mono ?_
      rintro e w1 ⟨rfl, hw⟩
      have h1 : Bud w1 B ⟨0, u, d⟩ := hw ▸ h.setL 0
      have o1 : Only [B] w w1 := Only.one hw
      clear hw a0 z0
      have a1 := h1.c1
      have z1 := h1.fz 1
      go_wp2_with fail
      refine (int_add _ u l (by omega) _ a1 z1).mono ?_
      rintro e w2 ⟨rfl, hw⟩
      have h2 : Bud w2 B ⟨0, u + l, d⟩ := hw ▸ h1.setU (u + l)
      have o2 : Only [B] w w2 := o1.trans (Only.one hw)
      clear hw a1 z1
      go_wp2_with fail
      go_ret
      exact ⟨ret_int e0.out.symm, h2.to (by unfold St.less; rw [e0.out]; exact St.eq (by simp) rfl rfl), o2⟩
  · have e0 : Hid (St.some ⟨l, u, d⟩ n = n) := by unfold Hid St.some; rw [if_neg (by omega), if_neg hl]
    go_enter Try.func24, Try.ntmps24
    go_wp2_with fail
    go_loop [5] (fun _ => True) (fun _ => 1)
    case atStart => trivial
    case round =>
      clear hrel
      go_wp2_with (go_at_call 27; refine (int_load _ l _ a0).mono ?_; rintro e w' ⟨rfl, rfl⟩)
      refine (int_swap _ l (l - n) _ a0 z0).mono ?_
      rintro e w1 ⟨rfl, hw⟩
      have h1 : Bud w1 B ⟨l - n, u, d⟩ := hw ▸ h.setL (l - n)
      have o1 : Only [B] w w1 := Only.one hw
      clear hw a0 z0
      have a1 := h1.c1
      have z1 := h1.fz 1
      go_wp2_with fail
      refine (int_add _ u n (by omega) _ a1 z1).mono ?_
      rintro e w2 ⟨rfl, hw⟩
      have h2 : Bud w2 B ⟨l - n, u + n, d⟩ := hw ▸ h1.setU (u + n)
      have o2 : Only [B] w w2 := o1.trans (Only.one hw)
      clear hw a1 z1
      go_wp2_with fail
      go_ret
      exact ⟨ret_int e0.out.symm, h2.to (by unfold St.less; rw [e0.out]), o2⟩

set_option maxHeartbeats 400000 in
/-- put: n units come back. -/
theorem put_any (B : Nat) (s : St) (n : Int) (w : World) (h : Bud w B s) (hs : s.ok) (hn : 0 ≤ n) (hn' : n ≤ 1000000000000) :
    Calls Try.prog 26 #[.pointer (some ⟨B, 0, none⟩), .int .i64 n] w fun e w' => e = .returned (.tuple #[]) ∧ Bud w' B ⟨s.l + n, s.u - n, s.d⟩ ∧ Only [B] w w' := by
  obtain ⟨l, u, d⟩ := s
  obtain ⟨s1, s2, s3, s4⟩ := hs
  simp only at s1 s2 s3 s4
  have hlt := h.lt
  have a0 := h.c0
  have z0 := h.fz 0
  have hl : ¬ 9223372036854775807 - l < n := by omega
  go_enter Try.func26, Try.ntmps26
  go_wp2_with fail
  go_loop [4] (fun _ => True) (fun _ => 1)
  case atStart => trivial
  case round =>
    clear hrel
    go_wp2_with (go_at_call 27; refine (int_load _ l _ a0).mono ?_; rintro e w' ⟨rfl, rfl⟩)
    refine (int_swap _ l (l + n) _ a0 z0).mono ?_
    rintro e w1 ⟨rfl, hw⟩
    have h1 : Bud w1 B ⟨l + n, u, d⟩ := hw ▸ h.setL (l + n)
    have o1 : Only [B] w w1 := Only.one hw
    clear hw a0 z0
    have a1 := h1.c1
    have z1 := h1.fz 1
    go_wp2_with fail
    refine (int_add _ u (-n) (by omega) _ a1 z1).mono ?_
    rintro e w2 ⟨rfl, hw⟩
    have h2 : Bud w2 B ⟨l + n, u + -n, d⟩ := hw ▸ h1.setU (u + -n)
    have o2 : Only [B] w w2 := o1.trans (Only.one hw)
    clear hw a1 z1
    go_wp2_with fail
    first | go_end0 | refine bodyPost_ret (results_none rfl _ _ _) rfl ?_
    exact ⟨rfl, h2.to (St.eq rfl (by omega) rfl), o2⟩

set_option maxHeartbeats 400000 in
/-- New: a new budget. -/
theorem New_any (n : Int) (w : World) :
    Calls Try.prog 8 #[.int .i64 n] w fun e w' => e = .returned (.pointer (some ⟨w.heap.size, 0, none⟩)) ∧ Bud w' w.heap.size (fresh n) ∧ Only [] w w' := by
  have hB := Blk.new w 60 #[.int .i64 0, .int .i64 0, .int .u32 0, .int .i32 0, .int .u32 0, .int .u32 0]
  have c := Blk.cell hB 0
  have z := Blk.frozen hB 0
  by_cases hn : n < 0
  · have ef : Hid (fresh n = ⟨0, 0, false⟩) := by unfold Hid fresh; rw [if_pos hn]
    go_enter Try.func8, Try.ntmps8
    go_wp2_with fail
    refine (int_store _ _ 0 _ c z).mono ?_
    rintro e w1 ⟨rfl, hw⟩
    have h1 : Bud w1 w.heap.size ⟨0, 0, false⟩ := hw ▸ Blk.set hB 0 (.int .i64 0)
    have o1 : Only [] w w1 := hw ▸ ((Only.refl [] w).alloc _).setNew (Nat.le_refl _) 0 _
    clear hw c z
    go_wp2_with fail
    go_ret
    exact ⟨rfl, h1.to ef.out.symm, o1⟩
  · have ef : Hid (fresh n = ⟨n, 0, false⟩) := by unfold Hid fresh; rw [if_neg hn]
    go_enter Try.func8, Try.ntmps8
    go_wp2_with fail
    refine (int_store _ _ n _ c z).mono ?_
    rintro e w1 ⟨rfl, hw⟩
    have h1 : Bud w1 w.heap.size ⟨n, 0, false⟩ := hw ▸ Blk.set hB 0 (.int .i64 n)
    have o1 : Only [] w w1 := hw ▸ ((Only.refl [] w).alloc _).setNew (Nat.le_refl _) 0 _
    clear hw c z
    go_wp2_with fail
    go_ret
    exact ⟨rfl, h1.to ef.out.symm, o1⟩

theorem take_all (B : Nat) (l u : Int) (d : Bool) (n : Int) (w : World) (h : Bud w B ⟨l, u, d⟩) (hs : (⟨l, u, d⟩ : St).ok) (hn : l < n) :
    Calls Try.prog 24 #[.pointer (some ⟨B, 0, none⟩), .int .i64 n] w fun e w' => e = .returned (.int .i64 l) ∧ Bud w' B ⟨0, u + l, d⟩ ∧ Only [B] w w' := by
  have h0 : 0 ≤ l := hs.1
  refine (take_any B ⟨l, u, d⟩ n w h hs (by omega)).mono ?_
  rintro e w' ⟨rfl, h', o'⟩
  have e0 : St.some ⟨l, u, d⟩ n = l := by unfold St.some; rw [if_neg (by omega), if_pos hn]
  exact ⟨ret_int e0, h'.to (by unfold St.less; rw [e0]; exact St.eq (by simp) rfl rfl), o'⟩

theorem take_some (B : Nat) (l u : Int) (d : Bool) (n : Int) (w : World) (h : Bud w B ⟨l, u, d⟩) (hs : (⟨l, u, d⟩ : St).ok) (h0 : 0 ≤ n) (hn : n ≤ l) :
    Calls Try.prog 24 #[.pointer (some ⟨B, 0, none⟩), .int .i64 n] w fun e w' => e = .returned (.int .i64 n) ∧ Bud w' B ⟨l - n, u + n, d⟩ ∧ Only [B] w w' := by
  refine (take_any B ⟨l, u, d⟩ n w h hs h0).mono ?_
  rintro e w' ⟨rfl, h', o'⟩
  have e0 : St.some ⟨l, u, d⟩ n = n := by unfold St.some; rw [if_neg (by omega), if_neg (show ¬ l < n by omega)]
  exact ⟨ret_int e0, h'.to (by unfold St.less; rw [e0]), o'⟩

set_option maxHeartbeats 400000 in
/-- Spend of a nil budget. -/
theorem Spend_nil (n : Int) (w : World) : Calls Try.prog 10 #[.pointer none, .int .i64 n] w fun e w' => e = .returned (.bool false) ∧ w = w' := by
  go_enter Try.func10, Try.ntmps10
  go_wp2_with fail
  go_ret
  exact ⟨rfl, rfl⟩

theorem St.spend_neg (s : St) (n : Int) (h : n < 0) : s.spend n = s := by unfold St.spend; rw [if_pos h]
theorem St.spend_dry (l u : Int) (n : Int) (h : 0 ≤ n) : St.spend ⟨l, u, true⟩ n = ⟨0, u + l, true⟩ := by unfold St.spend; rw [if_neg (by omega), if_pos (Or.inl rfl)]
theorem St.spend_more (l u : Int) (n : Int) (h : 0 ≤ n) (hl : l < n) : St.spend ⟨l, u, false⟩ n = ⟨0, u + l, true⟩ := by unfold St.spend; rw [if_neg (by omega), if_pos (Or.inr hl)]
theorem St.spend_can (l u : Int) (n : Int) (h : 0 ≤ n) (hl : n ≤ l) : St.spend ⟨l, u, false⟩ n = ⟨l - n, u + n, false⟩ := by unfold St.spend; rw [if_neg (by omega), if_neg (by simp; omega)]
theorem St.can_neg (s : St) (n : Int) (h : n < 0) : s.can n = false := by unfold St.can; simp; omega
theorem St.can_dry (l u : Int) (n : Int) : St.can ⟨l, u, true⟩ n = false := by unfold St.can; simp
theorem St.can_more (l u : Int) (d : Bool) (n : Int) (hl : l < n) : St.can ⟨l, u, d⟩ n = false := by unfold St.can; simp; omega
theorem St.can_can (l u : Int) (n : Int) (h : 0 ≤ n) (hl : n ≤ l) : St.can ⟨l, u, false⟩ n = true := by unfold St.can; simp; omega

set_option maxHeartbeats 400000 in
/-- Spend. -/
theorem Spend_any (B : Nat) (s : St) (n : Int) (w : World) (h : Bud w B s) (hs : s.ok) :
    Calls Try.prog 10 #[.pointer (some ⟨B, 0, none⟩), .int .i64 n] w fun e w' => e = .returned (.bool (s.can n)) ∧ Bud w' B (s.spend n) ∧ Only [B] w w' := by
  by_cases hn : n < 0
  · rw [St.spend_neg s n hn, St.can_neg s n hn]
    go_enter Try.func10, Try.ntmps10
    go_wp2_with fail
    go_ret
    exact ⟨rfl, h, Only.refl _ _⟩
  have hn0 : 0 ≤ n := by omega
  clear hn
  obtain ⟨l, u, d⟩ := s
  have c5 := h.c5
  cases d
  · by_cases hl : l < n
    · have hne : (l == n) = false := beq_eq_false_iff_ne.2 (by omega)
      rw [St.spend_more l u n hn0 hl, St.can_more l u false n hl]
      go_enter Try.func10, Try.ntmps10
      go_wp2_with (go_at_call 23; refine (bool_load _ 0 false rfl _ c5).mono ?_; rintro e w' ⟨rfl, rfl⟩)
      refine (take_all B l u false n _ h hs hl).mono ?_
      rintro e w1 ⟨rfl, h1, o1⟩
      clear c5
      go_wp2_with fail
      refine (runDry_any B _ _ h1).mono ?_
      rintro e w2 ⟨rfl, h2, o2⟩
      go_wp2_with fail
      go_ret
      exact ⟨rfl, h2, o1.trans o2⟩
    · have hl' : n ≤ l := by omega
      clear hl
      rw [St.spend_can l u n hn0 hl', St.can_can l u n hn0 hl']
      go_enter Try.func10, Try.ntmps10
      go_wp2_with (go_at_call 23; refine (bool_load _ 0 false rfl _ c5).mono ?_; rintro e w' ⟨rfl, rfl⟩)
      refine (take_some B l u false n _ h hs hn0 hl').mono ?_
      rintro e w1 ⟨rfl, h1, o1⟩
      clear c5
      go_wp2_with fail
      go_ret
      exact ⟨rfl, h1, o1⟩
  · have hl : l < 9223372036854775807 := by have := hs.2.1; simp only at this; omega
    rw [St.spend_dry l u n hn0, St.can_dry l u n]
    go_enter Try.func10, Try.ntmps10
    go_wp2_with (go_at_call 23; refine (bool_load _ 1 true rfl _ c5).mono ?_; rintro e w' ⟨rfl, rfl⟩)
    refine (take_all B l u true 9223372036854775807 _ h hs hl).mono ?_
    rintro e w1 ⟨rfl, h1, o1⟩
    clear c5
    go_wp2_with fail
    go_ret
    exact ⟨rfl, h1, o1⟩

set_option maxHeartbeats 400000 in
theorem Left_nil (w : World) : Calls Try.prog 18 #[.pointer none] w fun e w' => e = .returned (.int .i64 0) ∧ w = w' := by
  go_enter Try.func18, Try.ntmps18
  go_wp2_with fail
  go_ret
  exact ⟨rfl, rfl⟩
set_option maxHeartbeats 400000 in
theorem Used_nil (w : World) : Calls Try.prog 19 #[.pointer none] w fun e w' => e = .returned (.int .i64 0) ∧ w = w' := by
  go_enter Try.func19, Try.ntmps19
  go_wp2_with fail
  go_ret
  exact ⟨rfl, rfl⟩
set_option maxHeartbeats 400000 in
theorem Dry_nil (w : World) : Calls Try.prog 20 #[.pointer none] w fun e w' => e = .returned (.bool true) ∧ w = w' := by
  go_enter Try.func20, Try.ntmps20
  go_wp2_with fail
  go_ret
  exact ⟨rfl, rfl⟩
set_option maxHeartbeats 400000 in
theorem Left_any (B : Nat) (s : St) (w : World) (h : Bud w B s) : Calls Try.prog 18 #[.pointer (some ⟨B, 0, none⟩)] w fun e w' => e = .returned (.int .i64 s.l) ∧ w = w' := by
  go_enter Try.func18, Try.ntmps18
  go_wp2_with (go_at_call 27; refine (int_load _ s.l _ h.c0).mono ?_; rintro e w' ⟨rfl, rfl⟩)
  go_ret
  exact ⟨rfl, rfl⟩
set_option maxHeartbeats 400000 in
theorem Used_any (B : Nat) (s : St) (w : World) (h : Bud w B s) : Calls Try.prog 19 #[.pointer (some ⟨B, 0, none⟩)] w fun e w' => e = .returned (.int .i64 s.u) ∧ w = w' := by
  go_enter Try.func19, Try.ntmps19
  go_wp2_with (go_at_call 27; refine (int_load _ s.u _ h.c1).mono ?_; rintro e w' ⟨rfl, rfl⟩)
  go_ret
  exact ⟨rfl, rfl⟩
theorem flag_ne (d : Bool) : (flag d != 0) = d := by cases d <;> rfl
set_option maxHeartbeats 400000 in
theorem Dry_any (B : Nat) (s : St) (w : World) (h : Bud w B s) : Calls Try.prog 20 #[.pointer (some ⟨B, 0, none⟩)] w fun e w' => e = .returned (.bool s.d) ∧ w = w' := by
  go_enter Try.func20, Try.ntmps20
  go_wp2_with (go_at_call 23; refine (bool_load _ (flag s.d) s.d (flag_ne s.d) _ h.c5).mono ?_; rintro e w' ⟨rfl, rfl⟩)
  go_ret
  exact ⟨rfl, rfl⟩

set_option maxHeartbeats 400000 in
/-- Split of a nil budget: a budget of none. -/
theorem Split_nil (n : Int) (w : World) :
    Calls Try.prog 12 #[.pointer none, .int .i64 n] w fun e w' => e = .returned (.pointer (some ⟨w.heap.size, 0, none⟩)) ∧ Bud w' w.heap.size ⟨0, 0, false⟩ ∧ Only [] w w' := by
  go_enter Try.func12, Try.ntmps12
  go_wp2_with fail
  refine (New_any 0 _).mono ?_
  rintro e w1 ⟨rfl, h1, o1⟩
  go_wp2_with fail
  go_ret
  exact ⟨rfl, h1, o1⟩

theorem St.some_nonneg (s : St) (n : Int) (h : 0 ≤ s.l) : 0 ≤ s.some n := by unfold St.some; split <;> (try split) <;> omega

set_option maxHeartbeats 400000 in
/-- Split. -/
theorem Split_any (B : Nat) (s : St) (n : Int) (w : World) (h : Bud w B s) (hs : s.ok) :
    Calls Try.prog 12 #[.pointer (some ⟨B, 0, none⟩), .int .i64 n] w fun e w' => ∃ C, w.heap.size ≤ C ∧ e = .returned (.pointer (some ⟨C, 0, none⟩)) ∧ Bud w' B (s.less n) ∧ Bud w' C ⟨s.some n, 0, false⟩ ∧ Only [B] w w' := by
  by_cases hn : n < 0
  · have e0 : Hid (s.some n = 0) := by unfold Hid St.some; rw [if_pos hn]
    go_enter Try.func12, Try.ntmps12
    go_wp2_with fail
    refine (New_any 0 _).mono ?_
    rintro e w1 ⟨rfl, h1, o1⟩
    go_wp2_with fail
    go_ret
    exact ⟨_, Nat.le_refl _, rfl, (h.only o1 (by simp)).to (by unfold St.less; rw [e0.out]; exact St.eq (by simp) (by simp) rfl), h1.to (by rw [e0.out]; rfl), o1.mono (by simp)⟩
  · have hn0 : 0 ≤ n := by omega
    clear hn
    have hm := St.some_nonneg s n hs.1
    go_enter Try.func12, Try.ntmps12
    go_wp2_with fail
    refine (take_any B s n _ h hs hn0).mono ?_
    rintro e w1 ⟨rfl, h1, o1⟩
    go_wp2_with fail
    refine (New_any _ _).mono ?_
    rintro e w2 ⟨rfl, h2, o2⟩
    go_wp2_with fail
    go_ret
    exact ⟨_, o1.size, rfl, h1.only o2 (by simp), h2.to (by unfold fresh; rw [if_neg (by omega)]), o1.then o2 (by simp)⟩

end Go.Proofs.Ytcjeccmnekmipaa
