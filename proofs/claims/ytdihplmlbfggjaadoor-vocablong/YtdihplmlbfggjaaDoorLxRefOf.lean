/-
  The contract of the document's own Of, byte by byte (as at stage 1, over this program's numbers).
-/
import Derived.Test.YtdihplmlbfggjaaDoorLxOf
import Derived.BigRegion
import Derived.Deep.RegionWith
import Derived.Deep.QuietTactic
import Derived.BigQuiet
import Derived.StillTailTactics
namespace Go.Proofs.YtdihplmlbfggjaaDoor.Lx
open Go Go.RowKit Go.Shelf Plain

theorem bcell {W w1 : World} (hb : Below W.heap.size W w1) : (∀ b o, b < W.heap.size → w1.cell? ⟨b, o, none⟩ = W.cell? ⟨b, o, none⟩) ∧ (∀ b o, b < W.heap.size → w1.frozen? ⟨b, o, none⟩ = W.frozen? ⟨b, o, none⟩) :=
  ⟨fun b o h => hb.cell (p := ⟨b, o, none⟩) h, fun b o h => hb.frozen (p := ⟨b, o, none⟩) h⟩

/-- The place that k bytes stand ahead of. -/
def markAt (s : ByteArray) (k : Nat) : Nat × Nat := Plain.mark (s.data.toList.take k)

theorem take_snoc (s : ByteArray) (k : Nat) (h : k < s.size) : s.data.toList.take (k + 1) = s.data.toList.take k ++ [s[k]] := by
  rw [List.take_succ_eq_append_getElem (by simpa using h)]; rfl
theorem markAt_zero (s : ByteArray) : markAt s 0 = (1, 1) := by simp [markAt, Plain.mark]
theorem markAt_nl (s : ByteArray) (k : Nat) (h : k < s.size) (hb : ((s[k].toNat : Int) == 10) = true) : markAt s (k + 1) = ((markAt s k).1 + 1, 1) := by
  unfold markAt
  rw [take_snoc s k h]
  have : s[k] = 10 := by
    have h1 : (s[k].toNat : Int) = 10 := by simpa using hb
    exact UInt8.toNat_inj.1 (by show s[k].toNat = 10; omega)
  simp [Plain.mark, Plain.step, this]
theorem markAt_more (s : ByteArray) (k : Nat) (h : k < s.size) (hb : ((s[k].toNat : Int) == 10) = false) : markAt s (k + 1) = ((markAt s k).1, (markAt s k).2 + 1) := by
  unfold markAt
  rw [take_snoc s k h]
  have : ¬ s[k] = 10 := by
    intro e
    rw [e] at hb
    simp at hb
  simp [Plain.mark, Plain.step, this]
theorem markAt_le (s : ByteArray) (k : Nat) : (markAt s k).1 ≤ k + 1 ∧ (markAt s k).2 ≤ k + 2 := by
  have := mark_bound (s.data.toList.take k) (1, 1)
  have hl : (s.data.toList.take k).length ≤ k := List.length_take_le _ _
  unfold markAt Plain.mark
  simp only at this
  omega

set_option maxHeartbeats 800000 in
theorem refOf_calls (s : ByteArray) (hs : s.size ≤ 281474976710656) (n : Nat) (hn : n ≤ s.size) (w : World) :
    Calls Tryd.prog 62 #[.string s, .int .i64 n] w fun e w' => e = .returned (.agg #[.int .i64 ((markAt s n).1 : Int), .int .i64 ((markAt s n).2 : Int)]) ∧ Below w.heap.size w w' := by
  obtain ⟨N, hN⟩ : ∃ N, w.heap.size = N := ⟨_, rfl⟩
  have HN : Hid (w.heap.size = N) := hN
  go_enter Tryd.func62, Tryd.ntmps62
  go_wp2
  go_loopw [6] (fun i wr => ∃ k : Nat, k ≤ n ∧ i = .int .i64 k ∧ Blk wr N 108 #[.int .i64 0, .int .i64 0] ∧ Blk wr (N + 1) 108 #[.int .i64 ((markAt s k).1 : Int), .int .i64 ((markAt s k).2 : Int)] ∧ Below N w wr)
    (fun i _ => n - (intOf i).toNat)
  case atStart =>
    refine ⟨0, Nat.zero_le _, rfl, ?_, ?_, ?_⟩
    · exact (Blk.new' w N 108 _ hN).alloc _
    · rw [markAt_zero]; exact Blk.new' _ _ 108 _ (by simp [hN])
    · exact ((Below.refl N w).alloc (by simp [hN]) _).alloc (by simp [hN]) _
  case round =>
    obtain ⟨k, hk, rfl, c0, c1, hb⟩ := hrel
    have hle := markAt_le s k
    have q0 : wr.cell? ⟨N + 1, 0, none⟩ = some (.int .i64 ((markAt s k).1 : Int)) := c1.cell 0
    have q1 : wr.cell? ⟨N + 1, 1, none⟩ = some (.int .i64 ((markAt s k).2 : Int)) := c1.cell 1
    have f0 := c1.frozen 0
    have f1 := c1.frozen 1
    have b1 : ((markAt s k).1 : Int) ≤ 281474976710657 := by omega
    have b2 : ((markAt s k).2 : Int) ≤ 281474976710658 := by omega
    by_cases hlt : k < n
    · have hks : k < s.size := by omega
      by_cases hnl : ((s[k].toNat : Int) == 10) = true
      · have HM := markAt_nl s k hks hnl
        have HM' : Hid (markAt s (k + 1) = ((markAt s k).1 + 1, 1)) := HM
        clear HM
        go_wp2
        go_roundw
        case rel =>
          refine ⟨k + 1, by omega, by go_num, (c0.other (by omega) 0 _).other (by omega) 1 _, ?_, bset (bset hb (by omega) _) (by omega) _⟩
          rw [HM'.out]
          exact (c1.set 0 _).set 1 _
        case measure => simp [intOf]; omega
      · have hnl' : ((s[k].toNat : Int) == 10) = false := by simpa using hnl
        have HM' : Hid (markAt s (k + 1) = ((markAt s k).1, (markAt s k).2 + 1)) := markAt_more s k hks hnl'
        clear hnl
        go_wp2
        go_roundw
        case rel =>
          refine ⟨k + 1, by omega, by go_num, (c0.other (by omega) 0 _).other (by omega) 1 _, ?_, bset (bset hb (by omega) _) (by omega) _⟩
          rw [HM'.out]
          exact (c1.set 0 _).set 1 _
        case measure => simp [intOf]; omega
    · obtain rfl : k = n := by omega
      have q2 : wr.cell? ⟨N, 0, none⟩ = some (.int .i64 0) := c0.cell 0
      have q3 : wr.cell? ⟨N, 1, none⟩ = some (.int .i64 0) := c0.cell 1
      have f2 := c0.frozen 0
      have f3 := c0.frozen 1
      go_wp2
      have d := (c0.set 0 (.int .i64 ((markAt s k).1 : Int))).set 1 (.int .i64 ((markAt s k).2 : Int))
      have d0 : ((wr.setCell ⟨N, 0, none⟩ (.int .i64 ((markAt s k).1 : Int))).setCell ⟨N, 1, none⟩ (.int .i64 ((markAt s k).2 : Int))).cell? ⟨N, 0, none⟩ = some (.int .i64 ((markAt s k).1 : Int)) := d.cell 0
      have d1 : ((wr.setCell ⟨N, 0, none⟩ (.int .i64 ((markAt s k).1 : Int))).setCell ⟨N, 1, none⟩ (.int .i64 ((markAt s k).2 : Int))).cell? ⟨N, 1, none⟩ = some (.int .i64 ((markAt s k).2 : Int)) := d.cell 1
      exact bodyPost_ret (v := .agg #[.int .i64 ((markAt s k).1 : Int), .int .i64 ((markAt s k).2 : Int)]) (by simp [results, Tryd.results62, go_sem, d0, d1]) rfl ⟨rfl, by rw [HN.out]; exact bset (bset hb (by omega) _) (by omega) _⟩


end Go.Proofs.YtdihplmlbfggjaaDoor.Lx
