/-
  The law BudgetDry, as a contract: whatever the number and the list, true, and nothing old has turned.
-/
import Derived.Test.YtcjeccmnekmipaaBacks
namespace Go.Proofs.Ytcjeccmnekmipaa
open Go Go.RowKit

theorem mod_range (n m : Int) (h0 : 0 < m) (h1 : m ≤ 1000000000) : 0 ≤ wrap64 ((IntKind.u64.wrap n).tmod m) ∧ wrap64 ((IntKind.u64.wrap n).tmod m) < m := by
  rw [IntKind.wrap_u64]
  have a : 0 ≤ n % 18446744073709551616 := Int.emod_nonneg _ (by omega)
  rw [Int.tmod_eq_emod_of_nonneg a]
  have b := Int.emod_nonneg (n % 18446744073709551616) (show m ≠ 0 by omega)
  have c := Int.emod_lt_of_pos (n % 18446744073709551616) h0
  generalize n % 18446744073709551616 % m = x at *
  unfold wrap64
  omega

theorem can_eq (t : St) (k : Int) (h : 0 ≤ k) : t.can k = (decide (k ≤ t.l) && !t.d) := by
  unfold St.can
  rw [show decide (0 ≤ k) = true by simpa using h, Bool.true_and, Bool.and_comm]
theorem spend_dry_of (t : St) (k : Int) (h : 0 ≤ k) (hc : t.can k = false) : (t.spend k).d = true := by
  obtain ⟨l, u, d⟩ := t
  cases d
  · by_cases hl : l < k
    · rw [St.spend_more l u k h hl]
    · rw [St.can_can l u k h (by omega)] at hc; cases hc
  · rw [St.spend_dry l u k h]
theorem spend_all (l u : Int) (d : Bool) (h : 0 ≤ l) : St.spend ⟨l, u, d⟩ l = ⟨0, u + l, d⟩ := by
  cases d
  · rw [St.spend_can l u l h (by omega)]; exact St.eq (by omega) rfl rfl
  · rw [St.spend_dry l u l h]
theorem spend_none (u : Int) (d : Bool) : St.spend ⟨0, u, d⟩ 0 = ⟨0, u, d⟩ := by
  rw [spend_all 0 u d (by omega)]; exact St.eq rfl (by omega) rfl
theorem can_none (u : Int) (d : Bool) : St.can ⟨0, u, d⟩ 0 = !d := by unfold St.can; simp
theorem spend_one (u : Int) (d : Bool) : St.spend ⟨0, u, d⟩ 1 = ⟨0, u, true⟩ := by
  cases d
  · rw [St.spend_more 0 u 1 (by omega) (by omega)]; exact St.eq rfl (by omega) rfl
  · rw [St.spend_dry 0 u 1 (by omega)]; exact St.eq rfl (by omega) rfl

set_option maxHeartbeats 1000000 in
theorem BudgetDry_calls (n : Int) (a0 : Option Addr) (len cap : Nat) (xs : Nat → Int) (w : World) (hlen : len ≤ maxLen)
    (hx : 0 < len → ∃ A o, a0 = some ⟨A, o, none⟩ ∧ A < w.heap.size ∧ ∀ j, j < len → w.cell? ⟨A, o + j, none⟩ = some (.int .i64 (xs j))) :
    Calls Try.prog 6 #[.int .i64 n, .slice a0 len cap] w fun e w' => e = .returned (.bool true) ∧ Below w.heap.size w w' := by
  unfold maxLen at hlen
  have hnot : ∀ (x : Bool) (w : World), (Op.unary .not (.bool x)).run Try.prog w = .ok (.bool (!x)) w := fun _ _ => rfl
  go_enter Try.func6, Try.ntmps6
  go_wp2_with fail
  have hN := mod_range n 1000 (by omega) (by omega)
  generalize wrap64 ((IntKind.u64.wrap n).tmod 1000) = N at *
  refine (New_any N _).mono ?_
  rintro e w1 ⟨rfl, b1, o1⟩
  have hf : (fresh N).fits := by unfold fresh; rw [if_neg (by omega)]; exact ⟨by simp; omega, by simp; omega, by simp; omega, by simp; omega⟩
  have l1 := b1.lt
  generalize hB : w.heap.size = B at *
  have HB : Hid (w.heap.size = B) := hB
  clear hB
  have O1 : Only [] w w1 := o1
  go_wp2_with fail
  go_loopw [6] (fun i wr => ∃ (k : Nat) (t : St), k ≤ len ∧ k ≤ 100 ∧ i = .int .i64 k ∧ t.fits ∧ Bud wr B t ∧ Only [] w wr) (fun i _ => len - (intOf i).toNat)
  case atStart => exact ⟨0, fresh N, Nat.zero_le _, Nat.zero_le _, rfl, hf, b1, O1⟩
  case round =>
    clear hf b1 O1 o1 l1
    obtain ⟨k, t, hk, hk2, rfl, hf, hb, hO⟩ := hrel
    by_cases hlt : k < len ∧ k < 100
    · obtain ⟨hlt, hk3⟩ := hlt
      obtain ⟨A, o, rfl, hA, hcell⟩ := hx (by omega)
      have hc : wr.cell? ⟨A, o + k, none⟩ = some (.int .i64 (xs k)) := (hO.cell (p := ⟨A, o + k, none⟩) (by rw [HB.out]; exact hA) (by simp)).trans (hcell k hlt)
      clear hcell hx
      go_wp2_with fail
      have hK := mod_range (xs k) 2000 (by omega) (by omega)
      generalize wrap64 ((IntKind.u64.wrap (xs k)).tmod 2000) = K at *
      obtain ⟨hK0, hK1⟩ := hK
      obtain ⟨l, u, d⟩ := t
      refine (Left_any B _ _ hb).mono ?_
      rintro e w2 ⟨rfl, rfl⟩
      by_cases hle : K ≤ l
      · cases d
        · go_wp2_with fail
          refine (Dry_any B _ _ hb).mono ?_
          rintro e w2 ⟨rfl, rfl⟩
          go_wp2_with fail
          refine (Spend_to B ⟨l, u, false⟩ _ true K _ hb hf.ok (St.can_can l u K hK0 hle) rfl).mono ?_
          rintro e w2 ⟨rfl, b2, o2⟩
          have hf2 := hf.spend K
          have O2 : Only [] w w2 := hO.then o2 (by simp; have := HB.out; omega)
          go_wp2_with fail
          go_roundw
          case rel => exact ⟨k + 1, _, by omega, by omega, by go_num, hf2, b2, O2⟩
          case measure => simp [intOf]; omega
        · go_wp2_with fail
          refine (Dry_any B _ _ hb).mono ?_
          rintro e w2 ⟨rfl, rfl⟩
          go_wp2_with fail
          refine (Spend_to B ⟨l, u, true⟩ ⟨0, u + l, true⟩ false K _ hb hf.ok (St.can_dry l u K) (St.spend_dry l u K hK0)).mono ?_
          rintro e w2 ⟨rfl, b2, o2⟩
          have hf2 := hf.spend K
          rw [St.spend_dry l u K hK0] at hf2
          have O2 : Only [] w w2 := hO.then o2 (by simp; have := HB.out; omega)
          go_wp2_with fail
          refine (Dry_any B _ _ b2).mono ?_
          rintro e w3 ⟨rfl, rfl⟩
          go_wp2_with fail
          go_roundw
          case rel => exact ⟨k + 1, _, by omega, by omega, by go_num, hf2, b2, O2⟩
          case measure => simp [intOf]; omega
      · have hd := spend_dry_of ⟨l, u, d⟩ K hK0 (St.can_more l u d K (by omega))
        go_wp2_with fail
        refine (Spend_to B ⟨l, u, d⟩ _ false K _ hb hf.ok (St.can_more l u d K (by omega)) rfl).mono ?_
        rintro e w2 ⟨rfl, b2, o2⟩
        have hf2 := hf.spend K
        generalize St.spend ⟨l, u, d⟩ K = t2 at *
        have O2 : Only [] w w2 := hO.then o2 (by simp; have := HB.out; omega)
        go_wp2_with fail
        refine (Dry_any B _ _ b2).mono ?_
        rintro e w3 ⟨rfl, rfl⟩
        go_wp2_with fail
        go_roundw
        case rel => exact ⟨k + 1, _, by omega, by omega, by go_num, hf2, b2, O2⟩
        case measure => simp [intOf]; omega
    · obtain ⟨l, u, d⟩ := t
      have hl0 := hf.1
      simp only at hl0
      have hU := hf
      obtain ⟨_, hU1, hU2, hU3⟩ := hU
      simp only at hU1 hU2 hU3
      have okU : ∀ d, (⟨0, u + l, d⟩ : St).ok := fun d => ⟨by simp, by simp, by simp; omega, by simp; omega⟩
      by_cases h1 : k < len
      all_goals
        go_wp2_with fail
        refine (Left_any B _ _ hb).mono ?_
        rintro e w2 ⟨rfl, rfl⟩
        go_wp2_with fail
        refine (Spend_to B ⟨l, u, d⟩ ⟨0, u + l, d⟩ _ l _ hb hf.ok rfl (spend_all l u d hl0)).mono ?_
        rintro e w2 ⟨rfl, b2, o2⟩
        have O2 : Only [] w w2 := hO.then o2 (by simp; have := HB.out; omega)
        clear o2 hO hb
        go_wp2_with fail
        refine (Dry_any B _ _ b2).mono ?_
        rintro e w3 ⟨rfl, rfl⟩
        go_wp2_with fail
        refine (Spend_to B ⟨0, u + l, d⟩ ⟨0, u + l, d⟩ (!d) 0 _ b2 (okU d) (can_none _ d) (spend_none _ d)).mono ?_
        rintro e w3 ⟨rfl, b3, o3⟩
        have O3 : Only [] w w3 := O2.then o3 (by simp; have := HB.out; omega)
        clear o3 O2 b2
        have hdd : (d == !d) = false := by cases d <;> rfl
        go_wp2_with fail
        refine (Spend_to B ⟨0, u + l, d⟩ ⟨0, u + l, true⟩ _ 1 _ b3 (okU d) rfl (spend_one _ d)).mono ?_
        rintro e w4 ⟨rfl, b4, o4⟩
        have O4 : Only [] w w4 := O3.then o4 (by simp; have := HB.out; omega)
        clear o4 O3 b3
        have l4 := b4.lt
        go_wp2_with fail
        refine (New_any 9 _).mono ?_
        rintro e w5 ⟨rfl, c5, o5⟩
        have O5 := O4.trans o5
        have b5 := b4.only o5 (by simp)
        have c5' : Bud w5 w4.heap.size ⟨9, 0, false⟩ := c5
        have l5 := c5.lt
        clear O4 o5 b4 c5
        go_wp2_with fail
        refine (Back_one B w4.heap.size w5.heap.size 1 ⟨0, u + l, true⟩ ⟨9, 0, false⟩ _ (Blk.alloc b5 _) (Blk.alloc c5' _) (by omega) (by have := b5.lt; omega) (by omega) (by simp) (okU true) ⟨by decide, by decide, by decide, by decide⟩
          ⟨by simp [St.more], by simp [St.more], by simp [St.more]; omega, by simp [St.more]; omega⟩ ⟨by decide, by decide, by decide, by decide⟩ (by simp)).mono ?_
        rintro e w6 ⟨rfl, b6, _, o6⟩
        have O6 : Only [] w w6 := (O5.alloc _).then o6 (by simp; have := HB.out; have := O5.size; omega)
        have b6' : Bud w6 B ⟨9, u + l - 9, true⟩ := b6.to (by unfold St.more; exact St.eq (by simp) rfl rfl)
        clear b6 o6 O5 b5 c5'
        go_wp2_with fail
        refine (known_any _).mono ?_
        rintro e w7 ⟨rfl, o7⟩
        have O7 := O6.trans o7
        have b7 := b6'.only o7 (by simp)
        clear O6 o7 b6'
        go_wp2_with fail
        refine (Dry_any B _ _ b7).mono ?_
        rintro e w8 ⟨rfl, rfl⟩
        go_wp2_with fail
        refine (Spend_to B ⟨9, u + l - 9, true⟩ ⟨0, u + l - 9 + 9, true⟩ false 0 _ b7 ⟨by simp, by simp, by simp; omega, by simp; omega⟩ rfl rfl).mono ?_
        rintro e w8 ⟨rfl, b8, o8⟩
        have O8 : Only [] w w8 := O7.then o8 (by simp; have := HB.out; omega)
        clear O7 o8 b7
        go_wp2_with fail
        refine (Left_any B _ _ b8).mono ?_
        rintro e w9 ⟨rfl, rfl⟩
        go_wp2_with fail
        go_ret
        exact ⟨rfl, O8.below (by have := HB.out; omega) (by simp)⟩

end Go.Proofs.Ytcjeccmnekmipaa
