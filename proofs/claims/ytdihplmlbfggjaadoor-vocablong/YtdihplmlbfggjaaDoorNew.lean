/-
  The contract of vocab.New.
-/
import Derived.Test.YtdihplmlbfggjaaDoorIdx
namespace Go.Proofs.YtdihplmlbfggjaaDoor
open Go Go.RowKit Go.Maps

theorem metE_zero {ms : List ByteArray} {s : ByteArray} (h : metE ms s = 0) : wordB s = true ∧ s ∉ ms := by
  unfold metE at h
  split at h
  · cases h
  · rename_i h1
    split at h
    · cases h
    · rename_i h2
      exact ⟨by simpa using h1, fun hm => h2 ((inB_iff s ms).2 hm)⟩
theorem nodup_snoc {ms : List ByteArray} {s : ByteArray} (h : ms.Nodup) (hs : s ∉ ms) : (ms ++ [s]).Nodup := by
  rw [List.nodup_append]
  refine ⟨h, by simp, fun a ha b hb e => ?_⟩
  simp at hb
  subst hb
  subst e
  exact hs ha
theorem chkB_zero (l : List ByteArray) : ∀ ms : List ByteArray, ms.Nodup → chkB ms l = 0 → (ms ++ l).Nodup := by
  induction l with
  | nil => intro ms h _; simpa using h
  | cons s l ih =>
    intro ms h h0
    rw [chkB] at h0
    by_cases hm : metE ms s = 0
    · rw [if_pos hm] at h0
      have := ih (ms ++ [s]) (nodup_snoc h (metE_zero hm).2) h0
      simpa using this
    · rw [if_neg hm] at h0
      exact absurd h0 hm
theorem chkC_zero (nb : Int) (l : List Cn) : ∀ ms : List ByteArray, ms.Nodup → chkC nb ms l = 0 → (ms ++ l.map Cn.name).Nodup := by
  induction l with
  | nil => intro ms h _; simpa using h
  | cons c l ih =>
    intro ms h h0
    rw [chkC] at h0
    by_cases hm : metE ms c.name = 0
    · rw [if_pos hm] at h0
      by_cases hr : rightB nb c.ty = true
      · rw [if_pos hr] at h0
        have := ih (ms ++ [c.name]) (nodup_snoc h (metE_zero hm).2) h0
        simpa using this
      · rw [if_neg hr] at h0
        cases h0
    · rw [if_neg hm] at h0
      exact absurd h0 hm
theorem rightT {bs : List ByteArray} {cs : List Cn} (h : chk bs cs = 0) (fs : FitS bs) (fc : FitC cs) : RightT bs cs := by
  unfold chk at h
  split at h
  · cases h
  · rename_i h1
    split at h
    · rename_i h2
      refine ⟨fs, fc, by omega, ?_⟩
      have := chkB_zero bs [] List.nodup_nil h2
      exact chkC_zero _ cs bs (by simpa using this) h
    · rename_i h2
      exact absurd h h2

set_option maxRecDepth 100000 in
set_option maxHeartbeats 1600000 in
theorem New_calls (bs : List ByteArray) (cs : List Cn) (ok : Nat → Prop) (va vb : Value) (w : World) (hS : HoldsS w ok bs va) (hC : HoldsC w ok cs vb) (fs : FitS bs) (fc : FitC cs) (hlen : bs.length + cs.length ≤ 1000000) :
    Calls Tryd.prog 9 #[tab va vb] w fun e w' => ∃ p, e = .returned (.tuple #[.pointer p, .int .i64 (chk bs cs : Int)]) ∧ (chk bs cs ≠ 0 → p = none) ∧ (chk bs cs = 0 → ∃ B, p = some ⟨B, 0, none⟩ ∧ w.heap.size ≤ B ∧ Ix w' B bs cs) ∧ Below w.heap.size w w' := by
  obtain ⟨xa, xc, rfl, _⟩ := hS.shape
  obtain ⟨ya, yc, rfl, _⟩ := hC.shape
  obtain ⟨nb, hnb⟩ : ∃ nb, bs.length = nb := ⟨_, rfl⟩
  obtain ⟨nc, hnc⟩ : ∃ nc, cs.length = nc := ⟨_, rfl⟩
  rw [hnb] at hS
  rw [hnc] at hC
  rw [hnb, hnc]
  obtain ⟨N, hN⟩ : ∃ N, w.heap.size = N := ⟨_, rfl⟩
  obtain ⟨W, hW⟩ : ∃ W, w.alloc (.cells #[.slice xa nb xc, .slice ya nc yc] 28) = W := ⟨_, rfl⟩
  have bW : Blk W N 28 #[.slice xa nb xc, .slice ya nc yc] := by rw [← hW]; exact Blk.new' _ N 28 _ hN
  have blW : Below N w W := by rw [← hW]; exact (Below.refl _ _).alloc (by omega) _
  have hCk := Check_calls bs cs ok _ _ W (hS.bel (by rw [hN]; exact blW)) (hC.bel (by rw [hN]; exact blW)) fs fc hlen
  have hF := fun (w1 : World) (hb : Below N w w1) => vfresh_calls bs cs ok _ _ w1 (hS.bel (by rw [hN]; exact hb)) (hC.bel (by rw [hN]; exact hb)) fs fc hlen
  clear hS hC hnb hnc
  rw [hN]
  have hWN := bW.lt
  obtain ⟨r, hr⟩ : ∃ r, chk bs cs = r := ⟨_, rfl⟩
  rw [hr] at hCk ⊢
  by_cases h0 : r = 0
  · subst h0
    have z0 : ((0 : Int) != 0) = false := by simp
    have c0 := bW.cell 0
    have c1 := bW.cell 1
    go_enter Tryd.func9, Tryd.ntmps9
    go_wp2_with (first
      | (go_at_call 10; refine hCk.mono ?_; rintro e w1 ⟨rfl, hb1⟩; have hB1 : Below N w w1 := blW.trans (hb1.mono (by omega)); have b1 := bW.below hb1 bW.lt; have d0 := b1.cell 0; have d1 := b1.cell 1)
      | (go_at_call 27; refine (hF _ hB1).mono ?_; rintro e w2 ⟨v1, v2, rfl, hs2, hc2, hb2⟩))
    have hl2 := hb2.size
    have hl1 := hB1.size
    have hlN : N < w1.heap.size := b1.lt
    have hB2 : Below N w w2 := hB1.trans (hb2.mono (by omega))
    refine bodyPost_ret (v := .tuple #[.pointer (some ⟨w2.heap.size, 0, none⟩), .int .i64 0]) (by simp [results, Tryd.results9, go_sem]) rfl ?_
    refine ⟨_, rfl, fun h => absurd rfl h, fun _ => ⟨w2.heap.size, rfl, by omega, v1, v2, 0, none, Blk.new _ 85 _, ?_, ?_, .inl ⟨rfl, rfl⟩⟩, hB2.alloc (by omega) _⟩
    · exact (hs2.mono (ok' := fun b => b ≠ w2.heap.size) (fun b hb _ => by omega)).alloc _
    · exact (hc2.mono (ok' := fun b => b ≠ w2.heap.size) (fun b hb _ => by omega)).alloc _
  · have z0 : ((r : Int) != 0) = true := by simpa using h0
    have c0 := bW.cell 0
    have c1 := bW.cell 1
    go_enter Tryd.func9, Tryd.ntmps9
    go_wp2_with (go_at_call 10; refine hCk.mono ?_; rintro e w1 ⟨rfl, hb1⟩)
    refine bodyPost_ret (v := .tuple #[.pointer none, .int .i64 r]) (by simp [results, Tryd.results9, go_sem]) rfl ?_
    exact ⟨none, rfl, fun _ => rfl, fun h => absurd h h0, blW.trans (hb1.mono (by omega))⟩

end Go.Proofs.YtdihplmlbfggjaaDoor
