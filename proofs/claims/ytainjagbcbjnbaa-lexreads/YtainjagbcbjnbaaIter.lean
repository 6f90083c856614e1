/-
  The contract of the function that place.lines hands back: it gives each line of a text, with how many bytes stand ahead of it, to whatever loop body, till one says that it wants no more.
-/
import Derived.RangeFuncNested
import Derived.RangeFuncBound
import Derived.RangeFuncCalls
import Derived.RangeFuncLeaves
import Derived.Shelf.Abstract
import Derived.WalkKit
import Derived.OwnWalkIn
import Derived.TacticsInMore
import Derived.LoopNIn
import Derived.LoopIn
import Derived.WalkSpells
import Derived.Lib.IndexBytes
import Derived.Test.YtainjagbcbjnbaaMarks
import Derived.Test.YtainjagbcbjnbaaShelf
namespace Go.Proofs.Ytainjagbcbjnbaa
open Go Go.RowKit Go.Shelf Plain

attribute [local go_sem] Oper.semAt_some

/-- What a round is handed. -/
abbrev encs (x : Int × ByteArray) : Array Value := #[.int .i64 x.1, .string x.2]
/-- A line as a round is handed it. -/
def conv (x : Nat × List UInt8) : Int × ByteArray := ((x.1 : Int), ⟨x.2.toArray⟩)
/-- All lines of a text. -/
def allLines (s : ByteArray) : List (Int × ByteArray) := (lns 0 [] s.data.toList).map conv

/-- What a round that goes on keeps: the box that holds the text. -/
def Keeps (B : Nat) (s : ByteArray) (W W' : World) : Prop := W.cell? ⟨B, 0, none⟩ = some (.string s) → W'.cell? ⟨B, 0, none⟩ = some (.string s)

theorem idx_none (s : ByteArray) (k : Nat) (w : World) (h : Lib.indexByte (s.data.toList.drop k) 10 < 0) :
    Calls Try.prog 64 #[.string (s.extract k s.size), .int .u8 10] w fun e w' => e = .returned (.int .i64 (-1)) ∧ w' = w := by
  refine (Try.strings_IndexByte _ _ _).mono ?_
  rintro e w' ⟨rfl, rfl⟩
  have hge := Lib.indexByte_ge (s.data.toList.drop k) 10
  have e1 : Lib.indexByte (s.extract k s.size).data.toList (10 : Int).toNat.toUInt8 = -1 := by
    rw [Lib.extract_to_end]
    have e2 : (10 : Int).toNat.toUInt8 = 10 := by decide
    rw [e2]; omega
  rw [e1]
  exact ⟨rfl, rfl⟩

theorem idx_some (s : ByteArray) (k : Nat) (w : World) (j : Nat) (h : Lib.indexByte (s.data.toList.drop k) 10 = (j : Int)) :
    Calls Try.prog 64 #[.string (s.extract k s.size), .int .u8 10] w fun e w' => e = .returned (.int .i64 j) ∧ w' = w := by
  refine (Try.strings_IndexByte _ _ _).mono ?_
  rintro e w' ⟨rfl, rfl⟩
  have e1 : Lib.indexByte (s.extract k s.size).data.toList (10 : Int).toNat.toUInt8 = j := by
    rw [Lib.extract_to_end]
    have e2 : (10 : Int).toNat.toUInt8 = 10 := by decide
    rw [e2, h]
  rw [e1]
  exact ⟨rfl, rfl⟩

theorem conv_last (s : ByteArray) (k : Nat) : conv (k, s.data.toList.drop k) = ((k : Int), s.extract k s.size) := by
  unfold conv
  rw [← Lib.extract_to_end]
theorem conv_mid (s : ByteArray) (k j : Nat) : conv (k, (s.data.toList.drop k).take j) = ((k : Int), s.extract k (k + j)) := by
  unfold conv
  have : (s.data.toList.drop k).take j = (s.extract k (k + j)).data.toList := by rw [Lib.extract_data]; congr 1; omega
  rw [this]

set_option maxRecDepth 100000 in
set_option maxHeartbeats 2000000 in
theorem lines1_stops (n : Nat) (hn : 2 ≤ n) (B : Nat) (s : ByteArray) (hs : s.size ≤ 4611686018427387904) (w : World) (hB : B < w.heap.size) (hc : w.cell? ⟨B, 0, none⟩ = some (.string s)) :
    SeqStopsK Fence.wide n Try.prog 63 #[.pointer (some ⟨B, 0, none⟩)] encs (Keeps B s) (fun ys => ys = allLines s) (fun pre => pre <+: allLines s) (s.size + 1) w := fun l J Jx W hW _ _ hY h0 => by
  have hc' := (hW.cell (p := ⟨B, 0, none⟩) hB).trans hc
  have hf64 : Fence.wide.fn 64 := trivial
  have h1 : 1 ≤ n := by omega
  refine callsIn_of_wp Try.func63 rfl trivial ?_ rfl
  simp only [Try.ntmps63, List.size_toArray, List.length_cons, List.length_nil, Nat.reduceAdd, Nat.reduceSub, Array.replicate_succ, Array.replicate_zero, List.push_toArray, List.append_toArray, List.nil_append, List.cons_append]
  gi_wp2
  gi_loopw [3] (fun i wr => ∃ k : Nat, ∃ pre, k ≤ s.size ∧ i = .int .i64 k ∧ Hid (pre ++ (lns k [] (s.data.toList.drop k)).map conv = allLines s) ∧ pre.length ≤ k ∧ J pre wr ∧ wr.cell? ⟨B, 0, none⟩ = some (.string s))
    (fun i _ => s.size - (intOf i).toNat)
  case atStart => exact ⟨0, [], Nat.zero_le _, rfl, by show _ = _; simp [allLines], Nat.zero_le _, h0, hc'⟩
  case round =>
    obtain ⟨k, pre, hk, rfl, hall, hpl, hJs, hcx⟩ := hrel
    by_cases hneg : Lib.indexByte (s.data.toList.drop k) 10 < 0
    · obtain ⟨fn, tmps, assign, body, hy, hR⟩ := hY pre ((k : Int), s.extract k s.size) wr hJs (by omega)
      dsimp only [encs] at hy
      have hfin : Hid (pre ++ [((k : Int), s.extract k s.size)] = allLines s) := by
        have := hall.out
        rw [lns_none _ _ _ hneg] at this
        show _ = _
        rw [← conv_last]; simpa using this
      clear hall
      gi_wp2_with (gi_at_call 64; refine (callsIn_wide.2 (idx_none s k _ hneg)).mono ?_; rintro e w' ⟨rfl, rfl⟩)
      refine hR.mono ?_
      rintro e W3 (⟨rfl, hJ3, hk3⟩ | ⟨rfl, hJx3⟩)
      · gi_wp2
        refine bodyPost_ret (results_none rfl _ _ _) rfl ?_
        exact ⟨⟨_, rfl⟩, .inl ⟨_, hfin.out, hJ3⟩⟩
      · gi_wp2
        refine bodyPost_ret (results_none rfl _ _ _) rfl ?_
        exact ⟨⟨_, rfl⟩, .inr ⟨_, by rw [hfin.out]; exact List.prefix_refl _, hJx3⟩⟩
    · obtain ⟨j, hj⟩ : ∃ j : Nat, Lib.indexByte (s.data.toList.drop k) 10 = (j : Int) := ⟨_, (Int.toNat_of_nonneg (by omega)).symm⟩
      obtain ⟨hjl, hls⟩ := lns_some k [] _ j hj
      have hjs : k + j + 1 ≤ s.size := by
        have : (s.data.toList.drop k).length = s.size - k := by simp
        omega
      have hfin : Hid (pre ++ [((k : Int), s.extract k (k + j))] ++ (lns (k + j + 1) [] (s.data.toList.drop (k + j + 1))).map conv = allLines s) := by
        have := hall.out
        rw [hls, List.map_cons, List.drop_drop] at this
        show _ = _
        rw [← conv_mid]
        have e1 : k + (([] : List UInt8).length + j) + 1 = k + j + 1 := by simp
        have e2 : k + (j + 1) = k + j + 1 := by omega
        rw [e1, e2] at this
        simpa using this
      have HJ : Hid (Lib.indexByte (s.data.toList.drop k) 10 = (j : Int)) := hj
      clear hall hj hls hneg hjl
      obtain ⟨fn, tmps, assign, body, hy, hR⟩ := hY pre ((k : Int), s.extract k (k + j)) wr hJs (by omega)
      dsimp only [encs] at hy
      gi_wp2_with (gi_at_call 64; refine (callsIn_wide.2 (idx_some s k _ j HJ.out)).mono ?_; rintro e w' ⟨rfl, rfl⟩)
      refine hR.mono ?_
      rintro e W3 (⟨rfl, hJ3, hk3⟩ | ⟨rfl, hJx3⟩)
      · gi_wp2
        go_roundw
        case rel => exact ⟨k + j + 1, _, by omega, by go_num, hfin, by simp; omega, hJ3, hk3 hcx⟩
        case measure => simp [intOf]; omega
      · gi_wp2
        refine bodyPost_ret (results_none rfl _ _ _) rfl ?_
        exact ⟨⟨_, rfl⟩, .inr ⟨_, ⟨_, hfin.out⟩, hJx3⟩⟩

end Go.Proofs.Ytainjagbcbjnbaa
