/-
  Contracts: All and Back (they go through what is handed in), the examples of the chapter ('known'), and that a budget tells what the document's one has ('same').
-/
import Derived.Test.YtcjeccmnekmipaaMeth
import Derived.Deep.QuietTactic
import Derived.BigQuiet
import Derived.LaidEqlPtr
namespace Go.Proofs.Ytcjeccmnekmipaa
open Go Go.RowKit

theorem St.spend_l (s : St) (n : Int) (h : 0 ≤ s.l) : 0 ≤ (s.spend n).l ∧ (s.spend n).l ≤ s.l ∧ (s.spend n).l + (s.spend n).u = s.l + s.u := by
  unfold St.spend; split
  · omega
  · split
    · simp; omega
    · rename_i h1 h2
      simp at h2 ⊢; omega
/-- so far all numbers are small -/
def St.fits (s : St) : Prop := 0 ≤ s.l ∧ s.l ≤ 100000000000 ∧ 0 ≤ s.l + s.u ∧ s.l + s.u ≤ 100000000000
theorem St.fits.ok {s : St} (h : s.fits) : s.ok := by obtain ⟨a, b, c, d⟩ := h; exact ⟨a, by omega, by omega, by omega⟩
theorem St.fits.spend {s : St} (h : s.fits) (n : Int) : (s.spend n).fits := by obtain ⟨a, b, c, d⟩ := h; have := s.spend_l n a; exact ⟨by omega, by omega, by omega, by omega⟩

/-- P2.3: what All answers, and what is left then -/
def runAll : St → List Int → Bool × St
  | s, [] => (true, s)
  | s, x :: r => if s.can x = true then runAll (s.spend x) r else (false, s.spend x)

/-- behind k numbers, each of which could be spent -/
def AllTo (s : St) (xs : List Int) (k : Nat) (t : St) : Prop := runAll s xs = runAll t (xs.drop k) ∧ t.fits

theorem AllTo.go {s t : St} {xs : List Int} {k : Nat} (h : AllTo s xs k t) (hk : k < xs.length) (hc : t.can xs[k] = true) : AllTo s xs (k + 1) (t.spend xs[k]) := by
  refine ⟨h.1.trans ?_, h.2.spend _⟩
  rw [List.drop_eq_getElem_cons hk, runAll, if_pos hc]
theorem AllTo.stop {s t : St} {xs : List Int} {k : Nat} (h : AllTo s xs k t) (hk : k < xs.length) (hc : t.can xs[k] = false) : runAll s xs = (false, t.spend xs[k]) := by
  refine h.1.trans ?_
  rw [List.drop_eq_getElem_cons hk, runAll, if_neg (by simp [hc])]
theorem AllTo.done {s t : St} {xs : List Int} {k : Nat} (h : AllTo s xs k t) (hk : xs.length ≤ k) : runAll s xs = (true, t) := by
  refine h.1.trans ?_
  rw [List.drop_of_length_le hk, runAll]

set_option maxHeartbeats 800000 in
/-- All, of a list that is no budget's memory. -/
theorem All_any (B A o c : Nat) (s : St) (xs : List Int) (w : World) (h : Bud w B s) (hs : s.fits) (hAB : A ≠ B) (hA : A < w.heap.size) (hlen : xs.length ≤ 1000000)
    (hx : ∀ j (hj : j < xs.length), w.cell? ⟨A, o + j, none⟩ = some (.int .i64 xs[j])) :
    Calls Try.prog 21 #[.pointer (some ⟨B, 0, none⟩), .slice (some ⟨A, o, none⟩) xs.length c] w fun e w' => e = .returned (.bool (runAll s xs).1) ∧ Bud w' B (runAll s xs).2 ∧ Only [B] w w' := by
  have hnot : ∀ (x : Bool) (w : World), (Op.unary .not (.bool x)).run Try.prog w = .ok (.bool (!x)) w := fun _ _ => rfl
  go_enter Try.func21, Try.ntmps21
  go_wp2_with fail
  go_loopw [9] (fun i wr => ∃ (k : Nat) (t : St), k ≤ xs.length ∧ i = .int .i64 k ∧ AllTo s xs k t ∧ Bud wr B t ∧ Only [B] w wr) (fun i _ => xs.length - (intOf i).toNat)
  case atStart => exact ⟨0, s, Nat.zero_le _, rfl, ⟨rfl, hs⟩, h, Only.refl _ _⟩
  case round =>
    obtain ⟨k, t, hk, rfl, hT, hb, ho⟩ := hrel
    by_cases hlt : k < xs.length
    · have hc : wr.cell? ⟨A, o + k, none⟩ = some (.int .i64 xs[k]) := (ho.cell (p := ⟨A, o + k, none⟩) hA (by simpa using hAB)).trans (hx k hlt)
      have hgo := hT.go hlt
      have hstop := hT.stop hlt
      have HG : Hid (t.can xs[k] = true → AllTo s xs (k + 1) (t.spend xs[k])) := hgo
      have HS : Hid (t.can xs[k] = false → runAll s xs = (false, t.spend xs[k])) := hstop
      have hok := hT.2.ok
      clear hgo hstop
      generalize xs[k] = x at *
      cases hcan : t.can x
      · go_wp2_with fail
        refine (Spend_any B t x _ hb hok).mono ?_
        rintro e w1 ⟨rfl, h1, o1⟩
        go_wp2_with fail
        go_ret
        rw [HS.out hcan]
        exact ⟨rfl, h1, ho.trans o1⟩
      · go_wp2_with fail
        refine (Spend_any B t x _ hb hok).mono ?_
        rintro e w1 ⟨rfl, h1, o1⟩
        go_wp2_with fail
        go_roundw
        case rel => exact ⟨k + 1, t.spend x, by omega, by go_num, HG.out hcan, h1, ho.trans o1⟩
        case measure => simp [intOf]; omega
    · have hd := hT.done (by omega)
      have HD : Hid (runAll s xs = (true, t)) := hd
      clear hd
      go_wp2_with fail
      go_ret
      rw [HD.out]
      exact ⟨rfl, hb, ho⟩

set_option maxHeartbeats 400000 in
/-- All of a nil budget, of some. -/
theorem All_nil_some (A o n c : Nat) (x : Int) (w : World) (hn : 0 < n) (hx : w.cell? ⟨A, o, none⟩ = some (.int .i64 x)) :
    Calls Try.prog 21 #[.pointer none, .slice (some ⟨A, o, none⟩) n c] w fun e w' => e = .returned (.bool false) ∧ w = w' := by
  have hnot : ∀ (x : Bool) (w : World), (Op.unary .not (.bool x)).run Try.prog w = .ok (.bool (!x)) w := fun _ _ => rfl
  go_enter Try.func21, Try.ntmps21
  go_wp2_with fail
  go_loop [9] (fun i => i = .int .i64 0) (fun _ => 1)
  case atStart => rfl
  case round =>
    subst hrel
    go_wp2_with (go_at_call 10; refine (Spend_nil _ _).mono ?_; rintro e w' ⟨rfl, rfl⟩)
    go_ret
    exact ⟨rfl, rfl⟩

set_option maxHeartbeats 400000 in
/-- All of a nil budget, of none. -/
theorem All_nil_none (w : World) : Calls Try.prog 21 #[.pointer none, .slice none 0 0] w fun e w' => e = .returned (.bool true) ∧ w = w' := by
  go_enter Try.func21, Try.ntmps21
  go_wp2_with fail
  go_loop [9] (fun i => i = .int .i64 0) (fun _ => 1)
  case atStart => rfl
  case round =>
    subst hrel
    go_wp2_with fail
    go_ret
    exact ⟨rfl, rfl⟩

set_option maxHeartbeats 400000 in
/-- Back to a nil budget. -/
theorem Back_nil (v : Value) (w : World) : Calls Try.prog 14 #[.pointer none, v] w fun e w' => e = .returned (.tuple #[]) ∧ w = w' := by
  go_enter Try.func14, Try.ntmps14
  go_wp2_with fail
  first | go_end0 | refine bodyPost_ret (results_none rfl _ _ _) rfl ?_
  exact ⟨rfl, rfl⟩

def ptrv : Option Nat → Value
  | none => .pointer none
  | some C => .pointer (some ⟨C, 0, none⟩)

/-- behind k of what is handed in -/
def BackTo (s o : St) (C : Nat) (ps : List (Option Nat)) (k : Nat) (s1 o1 : St) : Prop :=
  (some C ∉ ps.take k ∧ s1 = s ∧ o1 = o) ∨ (some C ∈ ps.take k ∧ s1 = s.more o ∧ o1 = o.gone)

theorem BackTo.pass {s o : St} {C : Nat} {ps : List (Option Nat)} {k : Nat} {s1 o1 : St} (h : BackTo s o C ps k s1 o1) (hk : k < ps.length) (hne : ps[k] ≠ some C) : BackTo s o C ps (k + 1) s1 o1 := by
  have e : ps.take (k + 1) = ps.take k ++ [ps[k]] := by simp
  have hm : some C ∈ ps.take (k + 1) ↔ some C ∈ ps.take k := by rw [e, List.mem_append, List.mem_singleton]; simp [Ne.symm hne]
  rcases h with ⟨h1, h2⟩ | ⟨h1, h2⟩
  · exact Or.inl ⟨fun hc => h1 (hm.1 hc), h2⟩
  · exact Or.inr ⟨hm.2 h1, h2⟩

theorem BackTo.take {s o : St} {C : Nat} {ps : List (Option Nat)} {k : Nat} {s1 o1 : St} (h : BackTo s o C ps k s1 o1) (hk : k < ps.length) (he : ps[k] = some C) : BackTo s o C ps (k + 1) (s1.more o1) o1.gone := by
  have e : ps.take (k + 1) = ps.take k ++ [ps[k]] := by simp
  refine Or.inr ⟨by rw [e, List.mem_append, List.mem_singleton]; exact Or.inr he.symm, ?_⟩
  rcases h with ⟨_, rfl, rfl⟩ | ⟨_, rfl, rfl⟩
  · exact ⟨rfl, rfl⟩
  · obtain ⟨a, b, c⟩ := s; obtain ⟨p, q, r⟩ := o
    refine ⟨?_, ?_⟩
    · unfold St.more St.gone; exact St.eq (by simp) (by simp) (by cases c <;> cases r <;> rfl)
    · unfold St.gone; exact St.eq rfl (by simp) rfl

theorem info60 : ∃ j, Try.prog.info? 60 = some j ∧ j.size ≠ 0 := by
  obtain ⟨i, hi, hz⟩ := Option.map_eq_some_iff.1 (show (Try.prog.info? 60).map (fun i => decide (i.size = 0)) = some false by kernel_rfl)
  exact ⟨i, hi, by simpa using hz⟩
theorem same_ptr (w : World) (a : Addr) : (binOp .eql 24 (.pointer (some a)) (.pointer (some a))).run Try.prog w = .ok (.bool true) w := by
  obtain ⟨j, hj, _⟩ := info60
  exact run_eql_ptr_same w a Try.underlying24 hj
theorem other_ptr {w : World} {B C : Nat} {s o : St} (hb : Bud w B s) (hc : Bud w C o) (h : C ≠ B) : (binOp .eql 24 (.pointer (some ⟨C, 0, none⟩)) (.pointer (some ⟨B, 0, none⟩))).run Try.prog w = .ok (.bool false) w := by
  obtain ⟨j, hj, hz⟩ := info60
  exact run_eql_ptr_other w Try.underlying24 hj hz (fun e => h (congrArg Addr.block e)) hc hb

set_option maxHeartbeats 800000 in
/-- Back, of some budgets, of which one alone is neither nil nor the very one. -/
theorem Back_two (B C A c : Nat) (s o : St) (ps : List (Option Nat)) (w : World) (h : Bud w B s) (hC : Bud w C o) (hBC : B ≠ C) (hAB : A ≠ B) (hAC : A ≠ C) (hA : A < w.heap.size)
    (hs : s.ok) (ho : o.ok) (hm : (s.more o).ok) (hg : o.gone.ok) (hlen : ps.length ≤ 1000) (hps : ∀ p ∈ ps, p = none ∨ p = some B ∨ p = some C)
    (hx : ∀ j (hj : j < ps.length), w.cell? ⟨A, j, none⟩ = some (ptrv ps[j])) :
    Calls Try.prog 14 #[.pointer (some ⟨B, 0, none⟩), .slice (some ⟨A, 0, none⟩) ps.length c] w fun e w' => e = .returned (.tuple #[]) ∧
      ∃ s1 o1, BackTo s o C ps ps.length s1 o1 ∧ Bud w' B s1 ∧ Bud w' C o1 ∧ Only [B, C] w w' := by
  have hne : ¬ C = B := fun e => hBC e.symm
  go_enter Try.func14, Try.ntmps14
  go_wp2_with fail
  go_loopw [10] (fun i wr => ∃ (k : Nat) (s1 o1 : St), k ≤ ps.length ∧ i = .int .i64 k ∧ BackTo s o C ps k s1 o1 ∧ Bud wr B s1 ∧ Bud wr C o1 ∧ Only [B, C] w wr) (fun i _ => ps.length - (intOf i).toNat)
  case atStart => exact ⟨0, s, o, Nat.zero_le _, rfl, Or.inl ⟨by simp, rfl, rfl⟩, h, hC, Only.refl _ _⟩
  case round =>
    obtain ⟨k, s1, o1, hk, rfl, hT, hb, hcc, hO⟩ := hrel
    by_cases hlt : k < ps.length
    · have hc : wr.cell? ⟨A, k, none⟩ = some (ptrv ps[k]) := (hO.cell (p := ⟨A, k, none⟩) hA (by simp [hAB, hAC])).trans (hx k hlt)
      have hs1 : s1.ok ∧ o1.ok := by
        rcases hT with ⟨_, rfl, rfl⟩ | ⟨_, rfl, rfl⟩
        · exact ⟨hs, ho⟩
        · exact ⟨hm, hg⟩
      obtain ⟨hs1, ho1⟩ := hs1
      have HP : Hid (ps[k] ≠ some C → BackTo s o C ps (k + 1) s1 o1) := hT.pass hlt
      have HT : Hid (ps[k] = some C → BackTo s o C ps (k + 1) (s1.more o1) o1.gone) := hT.take hlt
      rcases hps ps[k] (List.getElem_mem hlt) with e | e | e
      · rw [e] at hc HP
        have hc' : wr.cell? ⟨A, k, none⟩ = some (.pointer none) := hc
        clear hc HT
        go_wp2_with fail
        go_roundw
        case rel => exact ⟨k + 1, s1, o1, by omega, by go_num, HP.out (by simp), hb, hcc, hO⟩
        case measure => simp [intOf]; omega
      · rw [e] at hc HP
        have hc' : wr.cell? ⟨A, k, none⟩ = some (.pointer (some ⟨B, 0, none⟩)) := hc
        have heq := same_ptr wr ⟨B, 0, none⟩
        clear hc HT
        go_wp2_with fail
        go_roundw
        case rel => exact ⟨k + 1, s1, o1, by omega, by go_num, HP.out (by simp [hBC]), hb, hcc, hO⟩
        case measure => simp [intOf]; omega
      · rw [e] at hc HT
        have hc' : wr.cell? ⟨A, k, none⟩ = some (.pointer (some ⟨C, 0, none⟩)) := hc
        have HT' := HT.out rfl
        have heq := other_ptr hb hcc hne
        clear hc HP HT e
        obtain ⟨ol, ou, od⟩ := o1
        obtain ⟨q1, q2, q3, q4⟩ := ho1
        simp only at q1 q2 q3 q4
        have hbig : ol < 9223372036854775807 := by omega
        go_wp2_with fail
        refine (take_all C ol ou od 9223372036854775807 _ hcc ⟨q1, q2, q3, q4⟩ hbig).mono ?_
        rintro e w1 ⟨rfl, h1, o1⟩
        have hb1 := hb.only o1 (by simp [hBC])
        go_wp2_with fail
        refine (put_any B s1 ol _ hb1 hs1 q1 q2).mono ?_
        rintro e w2 ⟨rfl, hb2, o2⟩
        have h2 := h1.only o2 (by simp [hne])
        go_wp2_with fail
        refine (Dry_any C _ _ h2).mono ?_
        rintro e w3 ⟨rfl, rfl⟩
        cases od
        · go_wp2_with fail
          go_roundw
          case rel => exact ⟨k + 1, _, _, by omega, by go_num, HT', hb2.to (by unfold St.more; exact St.eq rfl rfl (by simp)), h2, (hO.then o1 (by simp)).then o2 (by simp)⟩
          case measure => simp [intOf]; omega
        · go_wp2_with fail
          refine (runDry_any B _ _ hb2).mono ?_
          rintro e w3 ⟨rfl, hb3, o3⟩
          go_wp2_with fail
          go_roundw
          case rel => exact ⟨k + 1, _, _, by omega, by go_num, HT', hb3.to (by unfold St.more; exact St.eq rfl rfl (by simp)), h2.only o3 (by simp [hne]), ((hO.then o1 (by simp)).then o2 (by simp)).then o3 (by simp)⟩
          case measure => simp [intOf]; omega
    · obtain rfl : k = ps.length := by omega
      go_wp2_with fail
      first | go_end0 | refine bodyPost_ret (results_none rfl _ _ _) rfl ?_
      exact ⟨rfl, s1, o1, hT, hb, hcc, hO⟩

end Go.Proofs.Ytcjeccmnekmipaa
