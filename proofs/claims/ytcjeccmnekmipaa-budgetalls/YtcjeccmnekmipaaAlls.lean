/-
  The law BudgetAlls, as a contract: whatever the number and the list, true, and nothing old has turned.
-/
import Derived.Test.YtcjeccmnekmipaaRef
import Derived.Test.YtcjeccmnekmipaaDry
namespace Go.Proofs.Ytcjeccmnekmipaa
open Go Go.RowKit

set_option maxHeartbeats 800000 in
/-- All, of a list that is no budget's memory, or of none. -/
theorem All_gen (B : Nat) (a0 : Option Addr) (n c : Nat) (s : St) (xs : List Int) (w : World) (hn : xs.length = n) (h : Bud w B s) (hs : s.fits) (hlen : n ≤ 1000000)
    (hx : 0 < n → ∃ A o, a0 = some ⟨A, o, none⟩ ∧ A ≠ B ∧ A < w.heap.size ∧ ∀ j (hj : j < xs.length), w.cell? ⟨A, o + j, none⟩ = some (.int .i64 xs[j])) :
    Calls Try.prog 21 #[.pointer (some ⟨B, 0, none⟩), .slice a0 n c] w fun e w' => e = .returned (.bool (runAll s xs).1) ∧ Bud w' B (runAll s xs).2 ∧ Only [B] w w' := by
  by_cases h0 : 0 < n
  · obtain ⟨A, o, rfl, hAB, hA, hc⟩ := hx h0
    subst hn
    exact All_any B A o c s xs w h hs hAB hA hlen hc
  · obtain rfl : n = 0 := by omega
    obtain rfl : xs = [] := List.eq_nil_of_length_eq_zero hn
    go_enter Try.func21, Try.ntmps21
    go_wp2_with fail
    go_loop [9] (fun i => i = .int .i64 0) (fun _ => 1)
    case atStart => rfl
    case round =>
      subst hrel
      go_wp2_with fail
      go_ret
      exact ⟨rfl, h, Only.refl _ _⟩

theorem All_to (B : Nat) (a0 : Option Addr) (n c : Nat) (s t : St) (b : Bool) (xs : List Int) (w : World) (hr : runAll s xs = (b, t)) (hn : xs.length = n) (h : Bud w B s) (hs : s.fits) (hlen : n ≤ 1000000)
    (hx : 0 < n → ∃ A o, a0 = some ⟨A, o, none⟩ ∧ A ≠ B ∧ A < w.heap.size ∧ ∀ j (hj : j < xs.length), w.cell? ⟨A, o + j, none⟩ = some (.int .i64 xs[j])) :
    Calls Try.prog 21 #[.pointer (some ⟨B, 0, none⟩), .slice a0 n c] w fun e w' => e = .returned (.bool b) ∧ Bud w' B t ∧ Only [B] w w' := by
  refine (All_gen B a0 n c s xs w hn h hs hlen hx).mono ?_
  rintro e w' ⟨rfl, h1, h2⟩
  rw [hr] at h1
  exact ⟨by rw [hr], h1, h2⟩

/-- how far the loop over the document's budget has come -/
def AllsTo (s : St) (ys : List Int) (k : Nat) (ok : Bool) (t : St) : Prop := (ok = true ∧ AllTo s ys k t) ∨ (ok = false ∧ runAll s ys = (false, t))

theorem AllsTo.fits {s t : St} {ys : List Int} {k : Nat} {ok : Bool} (h : AllsTo s ys k ok t) (hok : ok = true) : t.fits := by
  rcases h with ⟨_, h⟩ | ⟨h, _⟩
  · exact h.2
  · rw [hok] at h; cases h
theorem AllsTo.go {s t : St} {ys : List Int} {k : Nat} (h : AllsTo s ys k true t) (hk : k < ys.length) : AllsTo s ys (k + 1) (t.can ys[k]) (t.spend ys[k]) := by
  rcases h with ⟨_, h⟩ | ⟨h, _⟩
  · cases hc : t.can ys[k]
    · exact Or.inr ⟨rfl, h.stop hk hc⟩
    · exact Or.inl ⟨rfl, h.go hk hc⟩
  · cases h
theorem AllsTo.done {s t : St} {ys : List Int} {k : Nat} {ok : Bool} (h : AllsTo s ys k ok t) (hk : ok = false ∨ ys.length ≤ k) : runAll s ys = (ok, t) := by
  rcases h with ⟨rfl, h⟩ | ⟨rfl, h⟩
  · rcases hk with hk | hk
    · cases hk
    · exact h.done hk
  · exact h

set_option maxHeartbeats 1600000 in
theorem BudgetAlls_calls (n : Int) (a0 : Option Addr) (len cap : Nat) (xs : Nat → Int) (w : World) (hlc : len ≤ cap) (hlen : cap ≤ maxLen)
    (hx : 0 < len → ∃ A o, a0 = some ⟨A, o, none⟩ ∧ A < w.heap.size ∧ ∀ j, j < len → w.cell? ⟨A, o + j, none⟩ = some (.int .i64 (xs j))) :
    Calls Try.prog 5 #[.int .i64 n, .slice a0 len cap] w fun e w' => e = .returned (.bool true) ∧ Below w.heap.size w w' := by
  unfold maxLen at hlen
  have hnot : ∀ (x : Bool) (w : World), (Op.unary .not (.bool x)).run Try.prog w = .ok (.bool (!x)) w := fun _ _ => rfl
  by_cases hb : 100 < len
  · have hx' : 0 < 100 → ∃ A o, a0 = some ⟨A, o, none⟩ ∧ A < w.heap.size ∧ ∀ j, j < 100 → w.cell? ⟨A, o + j, none⟩ = some (.int .i64 (xs j)) := fun _ => by
      obtain ⟨A, o, e, hA, hc⟩ := hx (by omega)
      exact ⟨A, o, e, hA, fun j hj => hc j (by omega)⟩
    clear hx
    obtain ⟨ys, hys⟩ : ∃ ys : List Int, ys = (List.range 100).map xs := ⟨_, rfl⟩
    have yl : ys.length = 100 := by rw [hys]; simp
    have yg : ∀ j (hj : j < ys.length), ys[j] = xs j := fun j hj => by subst hys; simp
    have YL : Hid (ys.length = 100) := yl
    have YG : Hid (∀ j (hj : j < ys.length), ys[j] = xs j) := yg
    have hyl : ys.length ≤ 100 := by omega
    clear hys yl yg
    go_enter Try.func5, Try.ntmps5
    go_wp2_with fail
    have hN := mod_range n 1000000 (by omega) (by omega)
    generalize wrap64 ((IntKind.u64.wrap n).tmod 1000000) = N at *
    obtain ⟨hN0, hN1⟩ := hN
    have ef : fresh N = ⟨N, 0, false⟩ := by unfold fresh; rw [if_neg (by omega)]
    have EF : Hid (fresh N = ⟨N, 0, false⟩) := ef
    clear ef
    refine (New_any N _).mono ?_
    rintro e w1 ⟨rfl, b1', o1⟩
    have b1 : Bud w1 w.heap.size ⟨N, 0, false⟩ := b1'.to EF.out
    have l1 := b1.lt
    generalize hB : w.heap.size = B at *
    have HB : Hid (w.heap.size = B) := hB
    clear hB b1'
    go_wp2_with fail
    refine (RefNew_any N _).mono ?_
    rintro e w2 ⟨rfl, c2', o2⟩
    have c2 : Refb w2 w1.heap.size ⟨N, 0, false⟩ := c2'.to EF.out
    have b2 := b1.only o2 (by simp)
    have O2 := o1.trans o2
    generalize w1.heap.size = C at *
    have hfit : (⟨N, 0, false⟩ : St).fits := ⟨by simp; omega, by simp; omega, by simp; omega, by simp; omega⟩
    clear b1 o1 o2 c2'
    go_wp2_with fail
    go_loopw [7, 8] (fun ok i wr => ∃ (k : Nat) (okb : Bool) (t : St), k ≤ 100 ∧ ok = .bool okb ∧ i = .int .i64 k ∧ AllsTo ⟨N, 0, false⟩ ys k okb t ∧ Bud wr B ⟨N, 0, false⟩ ∧ Refb wr C t ∧ Only [] w wr) (fun _ i _ => 100 - (intOf i).toNat)
    case atStart => exact ⟨0, true, _, Nat.zero_le _, rfl, rfl, Or.inl ⟨rfl, rfl, hfit⟩, b2, c2, O2⟩
    case round =>
      clear b2 c2 O2
      obtain ⟨k, okb, t, hk, rfl, rfl, hT, hbb, hcc, hO⟩ := hrel
      by_cases hlt : k < 100 ∧ okb = true
      · obtain ⟨hlt, rfl⟩ := hlt
        obtain ⟨A, o, rfl, hA, hcell⟩ := hx' (by omega)
        have hcl : wr.cell? ⟨A, o + k, none⟩ = some (.int .i64 (xs k)) := (hO.cell (p := ⟨A, o + k, none⟩) (by rw [HB.out]; exact hA) (by simp)).trans (hcell k hlt)
        have hft := hT.fits rfl
        have hgo := hT.go (by rw [YL.out]; exact hlt)
        rw [YG.out k] at hgo
        clear hcell hx'
        go_wp2_with fail
        refine (RefSpend_any C t (xs k) _ hcc hft.ok).mono ?_
        rintro e w2 ⟨rfl, c2, o2⟩
        have O2 : Only [] w w2 := hO.then o2 (by simp; have := HB.out; omega)
        have b2 := hbb.only o2 (by simp; omega)
        go_wp2_with fail
        go_roundw
        case rel => exact ⟨k + 1, _, _, by omega, rfl, by go_num, hgo, b2, c2, O2⟩
        case measure => simp [intOf]; omega
      · have hr := hT.done (by
          by_cases h1 : k < 100
          · exact Or.inl (by cases okb; rfl; exact absurd ⟨h1, rfl⟩ hlt)
          · exact Or.inr (by rw [YL.out]; omega))
        have HR : Hid (runAll ⟨N, 0, false⟩ ys = (okb, t)) := hr
        have HX : Hid (0 < 100 → ∃ A o, a0 = some ⟨A, o, none⟩ ∧ A < w.heap.size ∧ ∀ j, j < 100 → w.cell? ⟨A, o + j, none⟩ = some (.int .i64 (xs j))) := by unfold Hid; rw [HB.out]; exact hx'
        clear hr hx'
        have hend : ∀ (wr' : World), Only [] w wr' → (0 < 100 → ∃ A o, a0 = some ⟨A, o, none⟩ ∧ A ≠ B ∧ A < wr'.heap.size ∧ ∀ j (hj : j < ys.length), wr'.cell? ⟨A, o + j, none⟩ = some (.int .i64 ys[j])) := fun wr' hO' h0 => by
          obtain ⟨A, o, e, hA, hc⟩ := HX.out h0
          have := HB.out
          have := hO'.size
          exact ⟨A, o, e, by omega, by omega, fun j hj => by rw [YG.out j hj, ← hc j (by rw [YL.out] at hj; exact hj)]; exact hO'.cell (p := ⟨A, o + j, none⟩) hA (by simp)⟩
        have HE : Hid (∀ (wr' : World), Only [] w wr' → (0 < 100 → ∃ A o, a0 = some ⟨A, o, none⟩ ∧ A ≠ B ∧ A < wr'.heap.size ∧ ∀ j (hj : j < ys.length), wr'.cell? ⟨A, o + j, none⟩ = some (.int .i64 ys[j]))) := hend
        clear hend
        cases okb
        · by_cases h1 : k < 100
          all_goals
            go_wp2_with fail
            refine (known_any _).mono ?_
            rintro e w3 ⟨rfl, o3⟩
            have O3 := hO.trans o3
            have b3 := hbb.only o3 (by simp)
            have c3 := hcc.only o3 (by simp)
            clear o3 hO hbb hcc
            go_wp2_with fail
            refine (All_to B a0 100 _ _ t _ ys _ HR.out YL.out b3 hfit (by omega) (HE.out _ O3)).mono ?_
            rintro e w4 ⟨rfl, b4, o4⟩
            have O4 : Only [] w w4 := O3.then o4 (by simp; have := HB.out; omega)
            have c4 := c3.only o4 (by simp; omega)
            clear o4 O3 b3 c3
            go_wp2_with fail
            refine (same_any B C t _ b4 c4).mono ?_
            rintro e w5 ⟨rfl, nq, rfl⟩
            go_wp2_with fail
            go_ret
            exact ⟨rfl, (O4.drewN nq).below (by have := HB.out; omega) (by simp)⟩
        · have h1 : ¬ k < 100 := fun h => hlt ⟨h, rfl⟩
          go_wp2_with fail
          refine (known_any _).mono ?_
          rintro e w3 ⟨rfl, o3⟩
          have O3 := hO.trans o3
          have b3 := hbb.only o3 (by simp)
          have c3 := hcc.only o3 (by simp)
          clear o3 hO hbb hcc
          go_wp2_with fail
          refine (All_to B a0 100 _ _ t _ ys _ HR.out YL.out b3 hfit (by omega) (HE.out _ O3)).mono ?_
          rintro e w4 ⟨rfl, b4, o4⟩
          have O4 : Only [] w w4 := O3.then o4 (by simp; have := HB.out; omega)
          have c4 := c3.only o4 (by simp; omega)
          clear o4 O3 b3 c3
          go_wp2_with fail
          refine (same_any B C t _ b4 c4).mono ?_
          rintro e w5 ⟨rfl, nq, rfl⟩
          go_wp2_with fail
          go_ret
          exact ⟨rfl, (O4.drewN nq).below (by have := HB.out; omega) (by simp)⟩
  · have hx' : 0 < len → ∃ A o, a0 = some ⟨A, o, none⟩ ∧ A < w.heap.size ∧ ∀ j, j < len → w.cell? ⟨A, o + j, none⟩ = some (.int .i64 (xs j)) := fun _ => by
      obtain ⟨A, o, e, hA, hc⟩ := hx (by omega)
      exact ⟨A, o, e, hA, fun j hj => hc j (by omega)⟩
    clear hx
    obtain ⟨ys, hys⟩ : ∃ ys : List Int, ys = (List.range len).map xs := ⟨_, rfl⟩
    have yl : ys.length = len := by rw [hys]; simp
    have yg : ∀ j (hj : j < ys.length), ys[j] = xs j := fun j hj => by subst hys; simp
    have YL : Hid (ys.length = len) := yl
    have YG : Hid (∀ j (hj : j < ys.length), ys[j] = xs j) := yg
    have hyl : ys.length ≤ 100 := by omega
    clear hys yl yg
    go_enter Try.func5, Try.ntmps5
    go_wp2_with fail
    have hN := mod_range n 1000000 (by omega) (by omega)
    generalize wrap64 ((IntKind.u64.wrap n).tmod 1000000) = N at *
    obtain ⟨hN0, hN1⟩ := hN
    have ef : fresh N = ⟨N, 0, false⟩ := by unfold fresh; rw [if_neg (by omega)]
    have EF : Hid (fresh N = ⟨N, 0, false⟩) := ef
    clear ef
    refine (New_any N _).mono ?_
    rintro e w1 ⟨rfl, b1', o1⟩
    have b1 : Bud w1 w.heap.size ⟨N, 0, false⟩ := b1'.to EF.out
    have l1 := b1.lt
    generalize hB : w.heap.size = B at *
    have HB : Hid (w.heap.size = B) := hB
    clear hB b1'
    go_wp2_with fail
    refine (RefNew_any N _).mono ?_
    rintro e w2 ⟨rfl, c2', o2⟩
    have c2 : Refb w2 w1.heap.size ⟨N, 0, false⟩ := c2'.to EF.out
    have b2 := b1.only o2 (by simp)
    have O2 := o1.trans o2
    generalize w1.heap.size = C at *
    have hfit : (⟨N, 0, false⟩ : St).fits := ⟨by simp; omega, by simp; omega, by simp; omega, by simp; omega⟩
    clear b1 o1 o2 c2'
    go_wp2_with fail
    go_loopw [7, 8] (fun ok i wr => ∃ (k : Nat) (okb : Bool) (t : St), k ≤ len ∧ ok = .bool okb ∧ i = .int .i64 k ∧ AllsTo ⟨N, 0, false⟩ ys k okb t ∧ Bud wr B ⟨N, 0, false⟩ ∧ Refb wr C t ∧ Only [] w wr) (fun _ i _ => len - (intOf i).toNat)
    case atStart => exact ⟨0, true, _, Nat.zero_le _, rfl, rfl, Or.inl ⟨rfl, rfl, hfit⟩, b2, c2, O2⟩
    case round =>
      clear b2 c2 O2
      obtain ⟨k, okb, t, hk, rfl, rfl, hT, hbb, hcc, hO⟩ := hrel
      by_cases hlt : k < len ∧ okb = true
      · obtain ⟨hlt, rfl⟩ := hlt
        obtain ⟨A, o, rfl, hA, hcell⟩ := hx' (by omega)
        have hcl : wr.cell? ⟨A, o + k, none⟩ = some (.int .i64 (xs k)) := (hO.cell (p := ⟨A, o + k, none⟩) (by rw [HB.out]; exact hA) (by simp)).trans (hcell k hlt)
        have hft := hT.fits rfl
        have hgo := hT.go (by rw [YL.out]; exact hlt)
        rw [YG.out k] at hgo
        clear hcell hx'
        go_wp2_with fail
        refine (RefSpend_any C t (xs k) _ hcc hft.ok).mono ?_
        rintro e w2 ⟨rfl, c2, o2⟩
        have O2 : Only [] w w2 := hO.then o2 (by simp; have := HB.out; omega)
        have b2 := hbb.only o2 (by simp; omega)
        go_wp2_with fail
        go_roundw
        case rel => exact ⟨k + 1, _, _, by omega, rfl, by go_num, hgo, b2, c2, O2⟩
        case measure => simp [intOf]; omega
      · have hr := hT.done (by
          by_cases h1 : k < len
          · exact Or.inl (by cases okb; rfl; exact absurd ⟨h1, rfl⟩ hlt)
          · exact Or.inr (by rw [YL.out]; omega))
        have HR : Hid (runAll ⟨N, 0, false⟩ ys = (okb, t)) := hr
        have HX : Hid (0 < len → ∃ A o, a0 = some ⟨A, o, none⟩ ∧ A < w.heap.size ∧ ∀ j, j < len → w.cell? ⟨A, o + j, none⟩ = some (.int .i64 (xs j))) := by unfold Hid; rw [HB.out]; exact hx'
        clear hr hx'
        have hend : ∀ (wr' : World), Only [] w wr' → (0 < len → ∃ A o, a0 = some ⟨A, o, none⟩ ∧ A ≠ B ∧ A < wr'.heap.size ∧ ∀ j (hj : j < ys.length), wr'.cell? ⟨A, o + j, none⟩ = some (.int .i64 ys[j])) := fun wr' hO' h0 => by
          obtain ⟨A, o, e, hA, hc⟩ := HX.out h0
          have := HB.out
          have := hO'.size
          exact ⟨A, o, e, by omega, by omega, fun j hj => by rw [YG.out j hj, ← hc j (by rw [YL.out] at hj; exact hj)]; exact hO'.cell (p := ⟨A, o + j, none⟩) hA (by simp)⟩
        have HE : Hid (∀ (wr' : World), Only [] w wr' → (0 < len → ∃ A o, a0 = some ⟨A, o, none⟩ ∧ A ≠ B ∧ A < wr'.heap.size ∧ ∀ j (hj : j < ys.length), wr'.cell? ⟨A, o + j, none⟩ = some (.int .i64 ys[j]))) := hend
        clear hend
        cases okb
        · by_cases h1 : k < len
          all_goals
            go_wp2_with fail
            refine (known_any _).mono ?_
            rintro e w3 ⟨rfl, o3⟩
            have O3 := hO.trans o3
            have b3 := hbb.only o3 (by simp)
            have c3 := hcc.only o3 (by simp)
            clear o3 hO hbb hcc
            go_wp2_with fail
            refine (All_to B a0 len _ _ t _ ys _ HR.out YL.out b3 hfit (by omega) (HE.out _ O3)).mono ?_
            rintro e w4 ⟨rfl, b4, o4⟩
            have O4 : Only [] w w4 := O3.then o4 (by simp; have := HB.out; omega)
            have c4 := c3.only o4 (by simp; omega)
            clear o4 O3 b3 c3
            go_wp2_with fail
            refine (same_any B C t _ b4 c4).mono ?_
            rintro e w5 ⟨rfl, nq, rfl⟩
            go_wp2_with fail
            go_ret
            exact ⟨rfl, (O4.drewN nq).below (by have := HB.out; omega) (by simp)⟩
        · have h1 : ¬ k < len := fun h => hlt ⟨h, rfl⟩
          go_wp2_with fail
          refine (known_any _).mono ?_
          rintro e w3 ⟨rfl, o3⟩
          have O3 := hO.trans o3
          have b3 := hbb.only o3 (by simp)
          have c3 := hcc.only o3 (by simp)
          clear o3 hO hbb hcc
          go_wp2_with fail
          refine (All_to B a0 len _ _ t _ ys _ HR.out YL.out b3 hfit (by omega) (HE.out _ O3)).mono ?_
          rintro e w4 ⟨rfl, b4, o4⟩
          have O4 : Only [] w w4 := O3.then o4 (by simp; have := HB.out; omega)
          have c4 := c3.only o4 (by simp; omega)
          clear o4 O3 b3 c3
          go_wp2_with fail
          refine (same_any B C t _ b4 c4).mono ?_
          rintro e w5 ⟨rfl, nq, rfl⟩
          go_wp2_with fail
          go_ret
          exact ⟨rfl, (O4.drewN nq).below (by have := HB.out; omega) (by simp)⟩

end Go.Proofs.Ytcjeccmnekmipaa
