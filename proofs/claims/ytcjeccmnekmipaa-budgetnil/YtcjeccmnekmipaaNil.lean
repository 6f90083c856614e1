/-
  The law BudgetNil, as a contract: whatever the number, true, and nothing old has turned.
-/
import Derived.Test.YtcjeccmnekmipaaKnown
namespace Go.Proofs.Ytcjeccmnekmipaa
open Go Go.RowKit

set_option maxHeartbeats 1000000 in
theorem BudgetNil_calls (n : Int) (w : World) :
    Calls Try.prog 7 #[.int .i64 n] w fun e w' => e = .returned (.bool true) ∧ Below w.heap.size w w' := by
  have hnot : ∀ (x : Bool) (w : World), (Op.unary .not (.bool x)).run Try.prog w = .ok (.bool (!x)) w := fun _ _ => rfl
  go_enter Try.func7, Try.ntmps7
  go_wp2_with fail
  refine (Split_nil n _).mono ?_
  rintro e w1 ⟨rfl, b1, o1⟩
  have e1 := o1.size
  have l1 := b1.lt
  go_wp2_with fail
  refine (Back_nil _ _).mono ?_
  rintro e w2 ⟨rfl, hw⟩
  have O2 : Only [] w w2 := hw ▸ o1.alloc _
  have b2 : Bud w2 w.heap.size ⟨0, 0, false⟩ := hw ▸ Blk.alloc b1 _
  have e2 : w.heap.size < w2.heap.size := b2.lt
  clear hw o1 b1 e1 l1
  go_wp2_with fail
  have hx : wrap64 (-1 - wrap64 (IntKind.u64.wrap n / 2)) < 0 := by rw [IntKind.wrap_u64]; unfold wrap64; omega
  generalize wrap64 (-1 - wrap64 (IntKind.u64.wrap n / 2)) = x at *
  refine (New_any x _).mono ?_
  rintro e w3 ⟨rfl, c3, o3⟩
  have c3' : Bud w3 w2.heap.size ⟨0, 0, false⟩ := c3.to (by unfold fresh; rw [if_pos hx])
  have O3 := O2.trans o3
  have b3 := b2.only o3 (by simp)
  have e3 := c3.lt
  clear O2 o3 b2 c3
  go_wp2_with fail
  refine (known_any _).mono ?_
  rintro e w4 ⟨rfl, o4⟩
  have O4 := O3.trans o4
  have b4 := b3.only o4 (by simp)
  have c4 := c3'.only o4 (by simp)
  have e4 := o4.size
  clear O3 o4 b3 c3'
  go_wp2_with fail
  refine (Spend_nil _ _).mono ?_
  rintro e w5 ⟨rfl, rfl⟩
  go_wp2_with fail
  refine (All_nil_some _ 0 1 1 n _ (by omega) (by simp)).mono ?_
  rintro e w5 ⟨rfl, hw⟩
  have O5 : Only [] w w5 := hw ▸ O4.alloc _
  have b5 : Bud w5 w.heap.size ⟨0, 0, false⟩ := hw ▸ Blk.alloc b4 _
  have c5 : Bud w5 w2.heap.size ⟨0, 0, false⟩ := hw ▸ Blk.alloc c4 _
  clear hw O4 b4 c4
  go_wp2_with fail
  refine (All_nil_none _).mono ?_
  rintro e w6 ⟨rfl, rfl⟩
  go_wp2_with fail
  refine (Left_nil _).mono ?_
  rintro e w6 ⟨rfl, rfl⟩
  go_wp2_with fail
  refine (Used_nil _).mono ?_
  rintro e w6 ⟨rfl, rfl⟩
  go_wp2_with fail
  refine (Dry_nil _).mono ?_
  rintro e w6 ⟨rfl, rfl⟩
  go_wp2_with fail
  refine (Left_any _ _ _ b5).mono ?_
  rintro e w6 ⟨rfl, rfl⟩
  go_wp2_with fail
  refine (Left_any _ _ _ c5).mono ?_
  rintro e w6 ⟨rfl, rfl⟩
  go_wp2_with fail
  refine (Dry_any _ _ _ c5).mono ?_
  rintro e w6 ⟨rfl, rfl⟩
  go_wp2_with fail
  refine (Spend_to _ ⟨0, 0, false⟩ ⟨0, 0, false⟩ true 0 _ c5 ⟨by decide, by decide, by decide, by decide⟩ rfl rfl).mono ?_
  rintro e w6 ⟨rfl, c6, o6⟩
  have O6 : Only [] w w6 := O5.then o6 (by simp; omega)
  clear O5 o6 c5
  go_wp2_with fail
  refine (Spend_to _ ⟨0, 0, false⟩ ⟨0, 0, true⟩ false 1 _ c6 ⟨by decide, by decide, by decide, by decide⟩ rfl rfl).mono ?_
  rintro e w7 ⟨rfl, c7, o7⟩
  have O7 : Only [] w w7 := O6.then o7 (by simp; omega)
  clear O6 o7 c6
  go_wp2_with fail
  go_ret
  exact ⟨rfl, O7.below (Nat.le_refl _) (by simp)⟩

end Go.Proofs.Ytcjeccmnekmipaa
