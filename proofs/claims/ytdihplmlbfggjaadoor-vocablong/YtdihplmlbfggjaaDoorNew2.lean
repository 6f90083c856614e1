/-
  The contract of (*Index).Fresh.
-/
import Derived.Test.YtdihplmlbfggjaaDoorHas
namespace Go.Proofs.YtdihplmlbfggjaaDoor
open Go Go.RowKit Go.Maps

/-- The words that are asked for, one by one. -/
def cand (s : ByteArray) (k : Nat) : ByteArray := if k = 0 then s else s ++ ⟨(Lib.decDigits k).toArray⟩

theorem digs_small : ∀ j : Fin 100, (Lib.decDigits j.val).toArray.size ≤ 20000 := by decide +kernel
theorem Fresh_nil (s : ByteArray) (w : World) : Calls Tryd.prog 16 #[.pointer none, .string s] w fun e w' => e = .returned (.tuple #[.string ⟨#[]⟩, .int .i64 13]) ∧ w = w' := by
  go_enter Tryd.func16, Tryd.ntmps16
  go_wp2
  refine bodyPost_ret (v := .tuple #[.string ⟨#[]⟩, .int .i64 13]) (by simp [results, Tryd.results16, go_sem]) rfl ?_
  exact ⟨rfl, rfl⟩

theorem Fresh_form (s : ByteArray) (hs : s.size ≤ 20000) (hw : wordB s = false) (B : Nat) (w : World) :
    Calls Tryd.prog 16 #[.pointer (some ⟨B, 0, none⟩), .string s] w fun e w' => e = .returned (.tuple #[.string ⟨#[]⟩, .int .i64 3]) ∧ w = w' := by
  have hnot : ∀ (x : Bool) (w : World), (Op.unary .not (.bool x)).run Tryd.prog w = .ok (.bool (!x)) w := fun _ _ => rfl
  have hW := Lx.IsWord_calls s (by omega)
  rw [show Lx.justB s 1 = false from hw] at hW
  go_enter Tryd.func16, Tryd.ntmps16
  go_wp2_with (go_at_call 35; refine (hW _).mono ?_; rintro e w' ⟨rfl, rfl⟩)
  refine bodyPost_ret (v := .tuple #[.string ⟨#[]⟩, .int .i64 3]) (by simp [results, Tryd.results16, go_sem]) rfl ?_
  exact ⟨rfl, rfl⟩

set_option maxRecDepth 100000 in
set_option maxHeartbeats 1600000 in
theorem Fresh_calls (bs : List ByteArray) (cs : List Cn) (hT : RightT bs cs) (s : ByteArray) (hs : s.size ≤ 20000) (hw : wordB s = true) (k : Nat) (hk : k < 100) (hin : ∀ j, j < k → inB (cand s j) (names bs cs) = true) (hout : inB (cand s k) (names bs cs) = false) (B : Nat) (w : World) (hI : Ix w B bs cs) :
    Calls Tryd.prog 16 #[.pointer (some ⟨B, 0, none⟩), .string s] w fun e w' => e = .returned (if 30 < (cand s k).size then .tuple #[.string ⟨#[]⟩, .int .i64 2] else .tuple #[.string (cand s k), .int .i64 0]) ∧ Ix w' B bs cs ∧ Only [B] w w' := by
  have hnot : ∀ (x : Bool) (w : World), (Op.unary .not (.bool x)).run Tryd.prog w = .ok (.bool (!x)) w := fun _ _ => rfl
  have hW := Lx.IsWord_calls s (by omega)
  rw [show Lx.justB s 1 = true from hw] at hW
  have hCl := Clone_calls s (by omega)
  have hlB := hI.lt
  have O0 := Only.refl [B] w
  obtain ⟨rv, hrv⟩ : ∃ rv, (if 30 < (cand s k).size then Value.tuple #[.string ⟨#[]⟩, .int .i64 2] else .tuple #[.string (cand s k), .int .i64 0]) = rv := ⟨_, rfl⟩
  rw [hrv]
  have HRV : Hid ((if 30 < (cand s k).size then Value.tuple #[.string ⟨#[]⟩, .int .i64 2] else .tuple #[.string (cand s k), .int .i64 0]) = rv) := hrv
  clear hrv
  go_enter Tryd.func16, Tryd.ntmps16
  go_wp2_with (first
    | (go_at_call 35; refine (hW _).mono ?_; rintro e w' ⟨rfl, rfl⟩)
    | (go_at_call 36; refine (hCl _).mono ?_; rintro e w1 ⟨rfl, hb1⟩; have hI1 := hI.bel hb1; have O1 : Only [B] w w1 := Only.of_below' hb1))
  go_loopw [6, 7] (fun x i wr => ∃ j : Nat, j ≤ k ∧ x = .string (cand s j) ∧ i = .int .i64 ((j : Int) + 1) ∧ Ix wr B bs cs ∧ Only [B] w wr) (fun _ i _ => k + 1 - (intOf i).toNat)
  case atStart => exact ⟨0, Nat.zero_le _, rfl, rfl, hI1, O1⟩
  case round =>
    clear hI O0 hI1 O1 hb1
    obtain ⟨j, hj, rfl, rfl, hI, O0⟩ := hrel
    obtain ⟨N, hN⟩ : ∃ N, wr.heap.size = N := ⟨_, rfl⟩
    obtain ⟨x, hx⟩ : ∃ x, cand s j = x := ⟨_, rfl⟩
    rw [hx]
    obtain ⟨W, hW⟩ : ∃ W, wr.alloc (.cells #[.string x] 9) = W := ⟨_, rfl⟩
    have bW : Blk W N 9 #[.string x] := by rw [← hW]; exact Blk.new' _ N 9 _ hN
    have O1 : Only [B] w W := by rw [← hW]; exact O0.alloc _
    have hNB : N ≠ B := by have := hI.lt; omega
    have hIW : Ix W B bs cs := hI.bel (by rw [← hW]; exact (Below.refl _ _).alloc (Nat.le_refl _) _)
    have hQ : HoldsS W (fun b => b ≠ B) [x] (.slice (some ⟨N, 0, none⟩) 1 1) := ⟨some ⟨N, 0, none⟩, 1, rfl, Nat.le_refl _, (fun h => by cases h), fun i t hi => by
      have : i = 0 := by have := (List.getElem?_eq_some_iff.1 hi).1; simp at this; omega
      subst this
      obtain rfl : x = t := by simpa using hi
      exact ⟨N, 0, rfl, hNB, bW.cell 0⟩⟩
    have hxs : x.size ≤ 40000 := by
      rw [← hx]
      unfold cand
      split
      · omega
      · rw [ByteArray.size_append]
        have : (⟨(Lib.decDigits j).toArray⟩ : ByteArray).size ≤ 20000 := by
          show (Lib.decDigits j).toArray.size ≤ 20000
          exact digs_small ⟨j, by omega⟩
        omega
    have hH := Has_calls bs cs hT [x] (fun t ht => by simp at ht; subst ht; omega) (fun b => b ≠ B) _ B W hIW hQ (by simp) (by simp)
    by_cases hlt : j < k
    · have hb := hin j hlt
      rw [hx] at hb
      rw [show ([x].all fun s => inB s (names bs cs)) = true from by simp [hb]] at hH
      have hIt := Tryd.strconv_Itoa_small (j + 1) (by omega)
      have hc1 : cand s (j + 1) = s ++ ⟨(Lib.decDigits (j + 1)).toArray⟩ := by unfold cand; rw [if_neg (by omega)]
      have HC : Hid (cand s (j + 1) = s ++ ⟨(Lib.decDigits (j + 1)).toArray⟩) := hc1
      have hdg : (⟨(Lib.decDigits (j + 1)).toArray⟩ : ByteArray).size ≤ 20000 := digs_small ⟨j + 1, by omega⟩
      clear hb hx hc1 hQ bW hI
      generalize (⟨(Lib.decDigits (j + 1)).toArray⟩ : ByteArray) = dg at *
      go_wp2_with (first
        | (go_at_call 18; refine hH.mono ?_; rintro e w2 ⟨rfl, hI2, hO2⟩)
        | (go_at_call 37; refine (hIt _).mono ?_; rintro e w3 ⟨rfl, rfl⟩))
      exact ⟨⟨j + 1, by omega, by rw [HC.out], by go_num, hI2, O1.trans hO2⟩, by simp [intOf]; omega⟩
    · obtain rfl : j = k := by omega
      rw [hx] at hout
      rw [show ([x].all fun s => inB s (names bs cs)) = false from by simp [hout]] at hH
      have HXX : Hid (cand s j = x) := hx
      by_cases hbig : 30 < x.size
      · have z0 : decide ((30 : Int) < (x.size : Int)) = true := by simp; omega
        clear hQ bW hI hx
        go_wp2_with (go_at_call 18; refine hH.mono ?_; rintro e w2 ⟨rfl, hI2, hO2⟩)
        rw [← HRV.out, HXX.out, if_pos hbig]
        refine bodyPost_ret (v := .tuple #[.string ⟨#[]⟩, .int .i64 2]) (by simp [results, Tryd.results16, go_sem]) rfl ?_
        exact ⟨rfl, hI2, O1.trans hO2⟩
      · have z0 : decide ((30 : Int) < (x.size : Int)) = false := by simp; omega
        clear hQ bW hI hx
        go_wp2_with (go_at_call 18; refine hH.mono ?_; rintro e w2 ⟨rfl, hI2, hO2⟩)
        rw [← HRV.out, HXX.out, if_neg hbig]
        refine bodyPost_ret (v := .tuple #[.string x, .int .i64 0]) (by simp [results, Tryd.results16, go_sem]) rfl ?_
        exact ⟨rfl, hI2, O1.trans hO2⟩

end Go.Proofs.YtdihplmlbfggjaaDoor
