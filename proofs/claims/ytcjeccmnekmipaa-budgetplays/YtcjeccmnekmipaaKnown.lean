/-
  The chapter's examples ('known') and that a budget tells what the document's one has ('same').
-/
import Derived.Test.YtcjeccmnekmipaaMore
namespace Go.Proofs.Ytcjeccmnekmipaa
open Go Go.RowKit

theorem Spend_to (B : Nat) (s t : St) (b : Bool) (n : Int) (w : World) (h : Bud w B s) (hs : s.ok) (hb : s.can n = b) (ht : s.spend n = t) :
    Calls Try.prog 10 #[.pointer (some ⟨B, 0, none⟩), .int .i64 n] w fun e w' => e = .returned (.bool b) ∧ Bud w' B t ∧ Only [B] w w' := by
  subst hb; subst ht; exact Spend_any B s n w h hs

theorem Only.drewN {S : List Nat} {a w : World} (h : Only S a w) (n : Nat) : Only S a (w.drewN n) := ⟨h.os, h.tape, h.output, h.size, h.block⟩
theorem Bud.drewN {w : World} {B : Nat} {s : St} (h : Bud w B s) (n : Nat) : Bud (w.drewN n) B s := h
theorem Refb.drewN {w : World} {B : Nat} {s : St} (h : Refb w B s) (n : Nat) : Refb (w.drewN n) B s := h

set_option maxHeartbeats 1000000 in
theorem known_any (w : World) : Calls Try.prog 17 #[] w fun e w' => e = .returned (.bool true) ∧ Only [] w w' := by
  have hnot : ∀ (x : Bool) (w : World), (Op.unary .not (.bool x)).run Try.prog w = .ok (.bool (!x)) w := fun _ _ => rfl
  go_enter Try.func17, Try.ntmps17
  go_wp2_with fail
  refine (New_any 5 _).mono ?_
  rintro e w1 ⟨rfl, b1, o1⟩
  have e1 := o1.size
  have l1 := b1.lt
  go_wp2_with fail
  refine (Spend_to _ ⟨5, 0, false⟩ ⟨2, 3, false⟩ true 3 _ b1 ⟨by decide, by decide, by decide, by decide⟩ rfl rfl).mono ?_
  rintro e w2 ⟨rfl, b2, o2⟩
  have O2 : Only [] w w2 := o1.then o2 (by simp)
  have e2 := o2.size
  clear b1 o1 o2
  go_wp2_with fail
  refine (Left_any _ _ _ b2).mono ?_
  rintro e w3 ⟨rfl, rfl⟩
  go_wp2_with fail
  refine (Spend_to _ ⟨2, 3, false⟩ ⟨0, 5, true⟩ false 3 _ b2 ⟨by decide, by decide, by decide, by decide⟩ rfl rfl).mono ?_
  rintro e w4 ⟨rfl, b4, o4⟩
  have O4 : Only [] w w4 := O2.then o4 (by simp)
  have e4 := o4.size
  clear b2 O2 o4
  go_wp2_with fail
  refine (New_any 5 _).mono ?_
  rintro e w5 ⟨rfl, c5, o5⟩
  have O5 : Only [] w w5 := O4.trans o5
  have b5 := b4.only o5 (by simp)
  have e5 := o5.size
  clear O4 b4 o5
  go_wp2_with fail
  refine (Split_any _ ⟨5, 0, false⟩ 2 _ c5 ⟨by decide, by decide, by decide, by decide⟩).mono ?_
  rintro e w6 ⟨D, hD, rfl, c6, d6, o6⟩
  have O6 : Only [] w w6 := O5.then o6 (by simp; omega)
  have b6 := b5.only o6 (by simp; omega)
  have c6' : Bud w6 w4.heap.size ⟨3, 2, false⟩ := c6
  have d6' : Bud w6 D ⟨2, 0, false⟩ := d6
  clear c6 d6 O5 b5 c5 o6
  go_wp2_with fail
  refine (Left_any _ _ _ b6).mono ?_
  rintro e w7 ⟨rfl, rfl⟩
  go_wp2_with fail
  refine (Dry_any _ _ _ b6).mono ?_
  rintro e w7 ⟨rfl, rfl⟩
  go_wp2_with fail
  refine (Left_any _ _ _ c6').mono ?_
  rintro e w7 ⟨rfl, rfl⟩
  go_wp2_with fail
  refine (Left_any _ _ _ d6').mono ?_
  rintro e w7 ⟨rfl, rfl⟩
  go_wp2_with fail
  refine (Dry_any _ _ _ c6').mono ?_
  rintro e w7 ⟨rfl, rfl⟩
  go_wp2_with fail
  go_ret
  exact ⟨rfl, O6⟩

theorem quiet_still {P : Program} {f : FuncId} {args : Array Value} {w : World} {n : Nat} {v : Value}
    (h : Calls P f args (w.drewN n) fun e w' => e = .returned v ∧ w.drewN n = w') : Calls P f args (w.drewN n) fun e w'' => e = .returned v ∧ ∃ m, w'' = w.drewN m :=
  h.mono fun _ _ ⟨he, hm⟩ => ⟨he, n, hm.symm⟩

set_option maxHeartbeats 1000000 in
theorem same_any (B C : Nat) (s : St) (w : World) (h : Bud w B s) (hr : Refb w C s) :
    Calls Try.prog 16 #[.pointer (some ⟨B, 0, none⟩), .pointer (some ⟨C, 0, none⟩)] w fun e w' => e = .returned (.bool true) ∧ ∃ n, w' = w.drewN n := by
  have r0 : w.cell? ⟨C, 0, none⟩ = some (.int .i64 s.l) := Blk.cell hr 0
  have r1 : w.cell? ⟨C, 1, none⟩ = some (.int .i64 s.u) := Blk.cell hr 1
  have r2 : w.cell? ⟨C, 2, none⟩ = some (.bool s.d) := Blk.cell hr 2
  go_enter Try.func16, Try.ntmps16
  go_wp2_with fail
  go_quiet ((first
    | (go_at_call 18; exact quiet_still (Left_any B s _ (h.drewN _)))
    | (go_at_call 19; exact quiet_still (Used_any B s _ (h.drewN _)))
    | (go_at_call 20; exact quiet_still (Dry_any B s _ (h.drewN _)))))
  go_wp2_with fail
  go_ret
  exact ⟨rfl, _, rfl⟩

end Go.Proofs.Ytcjeccmnekmipaa
