/-
  The law BudgetSums, as a contract: whatever the numbers and the list, true, and nothing old has turned.
-/
import Derived.Test.YtcjeccmnekmipaaDry
namespace Go.Proofs.Ytcjeccmnekmipaa
open Go Go.RowKit

theorem St.some_le (s : St) (n : Int) (h : 0 ≤ s.l) : s.some n ≤ s.l := by unfold St.some; split <;> (try split) <;> omega

set_option maxHeartbeats 1000000 in
theorem BudgetSums_calls (n : Int) (a0 : Option Addr) (len cap : Nat) (xs : Nat → Int) (q : Int) (w : World) (hlen : len ≤ maxLen)
    (hx : 0 < len → ∃ A o, a0 = some ⟨A, o, none⟩ ∧ A < w.heap.size ∧ ∀ j, j < len → w.cell? ⟨A, o + j, none⟩ = some (.int .i64 (xs j))) :
    Calls Try.prog 4 #[.int .i64 n, .slice a0 len cap, .int .i64 q] w fun e w' => e = .returned (.bool true) ∧ Below w.heap.size w w' := by
  unfold maxLen at hlen
  have hnot : ∀ (x : Bool) (w : World), (Op.unary .not (.bool x)).run Try.prog w = .ok (.bool (!x)) w := fun _ _ => rfl
  go_enter Try.func4, Try.ntmps4
  go_wp2_with fail
  have hN := mod_range n 1000000 (by omega) (by omega)
  generalize wrap64 ((IntKind.u64.wrap n).tmod 1000000) = N at *
  obtain ⟨hN0, hN1⟩ := hN
  refine (New_any N _).mono ?_
  rintro e w1 ⟨rfl, b1', o1⟩
  have b1 : Bud w1 w.heap.size ⟨N, 0, false⟩ := b1'.to (by unfold fresh; rw [if_neg (by omega)])
  have l1 := b1.lt
  generalize hB : w.heap.size = B at *
  have HB : Hid (w.heap.size = B) := hB
  clear hB b1'
  go_wp2_with fail
  refine (Split_any B ⟨N, 0, false⟩ q _ b1 ⟨by simp; omega, by simp; omega, by simp, by simp⟩).mono ?_
  rintro e w2 ⟨C, hC, rfl, b2', c2, o2⟩
  have hs0 := St.some_nonneg ⟨N, 0, false⟩ q hN0
  have hs1 := St.some_le ⟨N, 0, false⟩ q hN0
  have O2 : Only [] w w2 := o1.then o2 (by simp; have := HB.out; omega)
  have b2 : Bud w2 B ⟨N - St.some ⟨N, 0, false⟩ q, St.some ⟨N, 0, false⟩ q, false⟩ := b2'.to (by unfold St.less; exact St.eq rfl (by simp) rfl)
  simp only at hs1
  generalize St.some ⟨N, 0, false⟩ q = Z at *
  clear b1 o1 o2 b2'
  have l2 := b2.lt
  have hCB : B < C := by omega
  have hBC : B ≠ C := by omega
  go_wp2_with fail
  refine (Left_any C _ _ c2).mono ?_
  rintro e w3 ⟨rfl, rfl⟩
  go_wp2_with fail
  go_loopw [10] (fun i wr => ∃ (k : Nat) (t : St), k ≤ len ∧ k ≤ 100 ∧ i = .int .i64 k ∧ 0 ≤ t.l ∧ t.l ≤ Z ∧ t.l + t.u = Z ∧ Bud wr C t ∧ Bud wr B ⟨N - Z, Z, false⟩ ∧ Only [] w wr) (fun i _ => len - (intOf i).toNat)
  case atStart => exact ⟨0, _, Nat.zero_le _, Nat.zero_le _, rfl, hs0, Int.le_refl _, by simp, c2, b2, O2⟩
  case round =>
    clear O2 l2 b2 c2 l1 hC
    obtain ⟨k, t, hk, hk2, rfl, ht0, ht1, ht2, hc, hb, hO⟩ := hrel
    have hlC := hc.lt
    have hfit : t.fits := ⟨ht0, by omega, by omega, by omega⟩
    by_cases hlt : k < len ∧ k < 100
    · obtain ⟨hlt, hk3⟩ := hlt
      obtain ⟨A, o, rfl, hA, hcell⟩ := hx (by omega)
      have hcl : wr.cell? ⟨A, o + k, none⟩ = some (.int .i64 (xs k)) := (hO.cell (p := ⟨A, o + k, none⟩) (by rw [HB.out]; exact hA) (by simp)).trans (hcell k hlt)
      clear hcell hx
      go_wp2_with fail
      refine (Spend_any C t (xs k) _ hc hfit.ok).mono ?_
      rintro e w2 ⟨rfl, c2, o2⟩
      have hsp := t.spend_l (xs k) ht0
      have O2 : Only [] w w2 := hO.then o2 (by simp; have := HB.out; omega)
      have b2 := hb.only o2 (by simpa using hBC)
      generalize t.spend (xs k) = t2 at *
      obtain ⟨l, u, d⟩ := t2
      simp only at hsp
      obtain ⟨hp0, hp1, hp2⟩ := hsp
      go_wp2_with fail
      refine (Left_any C _ _ c2).mono ?_
      rintro e w3 ⟨rfl, rfl⟩
      go_wp2_with fail
      refine (Left_any C _ _ c2).mono ?_
      rintro e w3 ⟨rfl, rfl⟩
      go_wp2_with fail
      refine (Used_any C _ _ c2).mono ?_
      rintro e w3 ⟨rfl, rfl⟩
      have hne : (l + u != Z) = false := by simp; omega
      go_wp2_with fail
      go_roundw
      case rel => exact ⟨k + 1, _, by omega, by omega, by go_num, hp0, by simp only; omega, by simp only; omega, c2, b2, O2⟩
      case measure => simp [intOf]; omega
    · obtain ⟨l, u, d⟩ := t
      simp only at ht0 ht1 ht2
      have hsum : (N - Z + l + (Z - l) == N) = true := beq_iff_eq.2 (by omega)
      by_cases h1 : k < len
      all_goals
        go_wp2_with fail
        refine (Left_any C _ _ hc).mono ?_
        rintro e w2 ⟨rfl, rfl⟩
        go_wp2_with fail
        refine (Dry_any C _ _ hc).mono ?_
        rintro e w2 ⟨rfl, rfl⟩
        go_wp2_with fail
        have hlB := hb.lt
        refine (Back_four B C wr.heap.size 4 ⟨N - Z, Z, false⟩ ⟨l, u, d⟩ _ (Blk.alloc hb _) (Blk.alloc hc _) hBC (by omega) (by omega) (by simp) ⟨by simp; omega, by simp; omega, by simp; omega, by simp; omega⟩ hfit.ok
          ⟨by simp [St.more]; omega, by simp [St.more]; omega, by simp [St.more]; omega, by simp [St.more]; omega⟩ ⟨by simp [St.gone], by simp [St.gone], by simp [St.gone]; omega, by simp [St.gone]; omega⟩ (Blk.new _ _ _)).mono ?_
        rintro e w2 ⟨rfl, b2', c2', o2⟩
        have b2 : Bud w2 B ⟨N - Z + l, Z - l, d⟩ := b2'.to (by unfold St.more; exact St.eq rfl rfl (by simp))
        have c2 : Bud w2 C ⟨0, u + l, d⟩ := c2'
        have O2 : Only [] w w2 := (hO.alloc _).then o2 (by simp; have := HB.out; omega)
        clear b2' c2' o2 hO hb hc
        go_wp2_with fail
        refine (known_any _).mono ?_
        rintro e w3 ⟨rfl, o3⟩
        have O3 := O2.trans o3
        have b3 := b2.only o3 (by simp)
        have c3 := c2.only o3 (by simp)
        clear O2 o3 b2 c2
        go_wp2_with fail
        refine (Left_any B _ _ b3).mono ?_
        rintro e w4 ⟨rfl, rfl⟩
        go_wp2_with fail
        refine (Left_any B _ _ b3).mono ?_
        rintro e w4 ⟨rfl, rfl⟩
        go_wp2_with fail
        refine (Used_any B _ _ b3).mono ?_
        rintro e w4 ⟨rfl, rfl⟩
        go_wp2_with fail
        refine (Left_any C _ _ c3).mono ?_
        rintro e w4 ⟨rfl, rfl⟩
        go_wp2_with fail
        refine (Dry_any B _ _ b3).mono ?_
        rintro e w4 ⟨rfl, rfl⟩
        go_wp2_with fail
        go_ret
        exact ⟨rfl, O3.below (by have := HB.out; omega) (by simp)⟩

end Go.Proofs.Ytcjeccmnekmipaa
