/-
  The contracts of the document's own answers: Of, At (byte by byte), Name and Number.
-/
import Derived.Test.YtjmpacenlmoldaaDoorSmall
namespace Go.Proofs.YtjmpacenlmoldaaDoor
open Go Go.RowKit Go.Shelf Plain

theorem take_snoc (s : ByteArray) (k : Nat) (h : k < s.size) : s.data.toList.take (k + 1) = s.data.toList.take k ++ [s[k]] := by
  rw [List.take_succ_eq_append_getElem (by simpa using h)]; rfl
theorem markAt_zero (s : ByteArray) : markAt s 0 = (1, 1) := by simp [markAt, Plain.mark]
theorem markAt_nl (s : ByteArray) (k : Nat) (h : k < s.size) (hb : ((s[k].toNat : Int) == 10) = true) : markAt s (k + 1) = ((markAt s k).1 + 1, 1) := by
  unfold markAt
  rw [take_snoc s k h]
  have : s[k] = 10 := by
    have h1 : (s[k].toNat : Int) = 10 := by simpa using hb
    exact UInt8.toNat_inj.1 (by show s[k].toNat = 10; omega)
  simp [Plain.mark, Plain.step, this]
theorem markAt_more (s : ByteArray) (k : Nat) (h : k < s.size) (hb : ((s[k].toNat : Int) == 10) = false) : markAt s (k + 1) = ((markAt s k).1, (markAt s k).2 + 1) := by
  unfold markAt
  rw [take_snoc s k h]
  have : ¬ s[k] = 10 := by
    intro e
    rw [e] at hb
    simp at hb
  simp [Plain.mark, Plain.step, this]
theorem markAt_le (s : ByteArray) (k : Nat) : (markAt s k).1 ≤ k + 1 ∧ (markAt s k).2 ≤ k + 2 := by
  have := mark_bound (s.data.toList.take k) (1, 1)
  have hl : (s.data.toList.take k).length ≤ k := List.length_take_le _ _
  unfold markAt Plain.mark
  simp only at this
  omega

set_option maxHeartbeats 800000 in
theorem refOf_calls (s : ByteArray) (hs : s.size ≤ 281474976710656) (n : Nat) (hn : n ≤ s.size) (w : World) :
    Calls Tryd.prog 15 #[.string s, .int .i64 n] w fun e w' => e = .returned (.agg #[.int .i64 ((markAt s n).1 : Int), .int .i64 ((markAt s n).2 : Int)]) ∧ Below w.heap.size w w' := by
  obtain ⟨N, hN⟩ : ∃ N, w.heap.size = N := ⟨_, rfl⟩
  have HN : Hid (w.heap.size = N) := hN
  go_enter Tryd.func15, Tryd.ntmps15
  go_wp2
  go_loopw [6] (fun i wr => ∃ k : Nat, k ≤ n ∧ i = .int .i64 k ∧ Blk wr N 23 #[.int .i64 0, .int .i64 0] ∧ Blk wr (N + 1) 23 #[.int .i64 ((markAt s k).1 : Int), .int .i64 ((markAt s k).2 : Int)] ∧ Below N w wr)
    (fun i _ => n - (intOf i).toNat)
  case atStart =>
    refine ⟨0, Nat.zero_le _, rfl, ?_, ?_, ?_⟩
    · exact (Blk.new' w N 23 _ hN).alloc _
    · rw [markAt_zero]; exact Blk.new' _ _ 23 _ (by simp [hN])
    · exact ((Below.refl N w).alloc (by simp [hN]) _).alloc (by simp [hN]) _
  case round =>
    obtain ⟨k, hk, rfl, c0, c1, hb⟩ := hrel
    have hle := markAt_le s k
    have q0 : wr.cell? ⟨N + 1, 0, none⟩ = some (.int .i64 ((markAt s k).1 : Int)) := c1.cell 0
    have q1 : wr.cell? ⟨N + 1, 1, none⟩ = some (.int .i64 ((markAt s k).2 : Int)) := c1.cell 1
    have f0 := c1.frozen 0
    have f1 := c1.frozen 1
    have b1 : ((markAt s k).1 : Int) ≤ 281474976710657 := by omega
    have b2 : ((markAt s k).2 : Int) ≤ 281474976710658 := by omega
    by_cases hlt : k < n
    · have hks : k < s.size := by omega
      by_cases hnl : ((s[k].toNat : Int) == 10) = true
      · have HM := markAt_nl s k hks hnl
        have HM' : Hid (markAt s (k + 1) = ((markAt s k).1 + 1, 1)) := HM
        clear HM
        go_wp2
        go_roundw
        case rel =>
          refine ⟨k + 1, by omega, by go_num, (c0.other (by omega) 0 _).other (by omega) 1 _, ?_, bset (bset hb (by omega) _) (by omega) _⟩
          rw [HM'.out]
          exact (c1.set 0 _).set 1 _
        case measure => simp [intOf]; omega
      · have hnl' : ((s[k].toNat : Int) == 10) = false := by simpa using hnl
        have HM' : Hid (markAt s (k + 1) = ((markAt s k).1, (markAt s k).2 + 1)) := markAt_more s k hks hnl'
        clear hnl
        go_wp2
        go_roundw
        case rel =>
          refine ⟨k + 1, by omega, by go_num, (c0.other (by omega) 0 _).other (by omega) 1 _, ?_, bset (bset hb (by omega) _) (by omega) _⟩
          rw [HM'.out]
          exact (c1.set 0 _).set 1 _
        case measure => simp [intOf]; omega
    · obtain rfl : k = n := by omega
      have q2 : wr.cell? ⟨N, 0, none⟩ = some (.int .i64 0) := c0.cell 0
      have q3 : wr.cell? ⟨N, 1, none⟩ = some (.int .i64 0) := c0.cell 1
      have f2 := c0.frozen 0
      have f3 := c0.frozen 1
      go_wp2
      have d := (c0.set 0 (.int .i64 ((markAt s k).1 : Int))).set 1 (.int .i64 ((markAt s k).2 : Int))
      have d0 : ((wr.setCell ⟨N, 0, none⟩ (.int .i64 ((markAt s k).1 : Int))).setCell ⟨N, 1, none⟩ (.int .i64 ((markAt s k).2 : Int))).cell? ⟨N, 0, none⟩ = some (.int .i64 ((markAt s k).1 : Int)) := d.cell 0
      have d1 : ((wr.setCell ⟨N, 0, none⟩ (.int .i64 ((markAt s k).1 : Int))).setCell ⟨N, 1, none⟩ (.int .i64 ((markAt s k).2 : Int))).cell? ⟨N, 1, none⟩ = some (.int .i64 ((markAt s k).2 : Int)) := d.cell 1
      exact bodyPost_ret (v := .agg #[.int .i64 ((markAt s k).1 : Int), .int .i64 ((markAt s k).2 : Int)]) (by simp [results, Tryd.results15, go_sem, d0, d1]) rfl ⟨rfl, by rw [HN.out]; exact bset (bset hb (by omega) _) (by omega) _⟩

theorem blk2 {W : World} {B : Nat} {t : TypeId} {a b a' b' : Int} (h : Blk W B t #[.int .i64 a, .int .i64 b]) (e1 : a = a') (e2 : b = b') : Blk W B t #[.int .i64 a', .int .i64 b'] := by rw [← e1, ← e2]; exact h

set_option maxHeartbeats 1600000 in
theorem refAt_some (s : ByteArray) (hs : s.size ≤ 281474976710656) (n : Nat) (hn : n ≤ s.size) (w : World) :
    Calls Tryd.prog 12 #[.string s, .agg #[.int .i64 ((markAt s n).1 : Int), .int .i64 ((markAt s n).2 : Int)]] w fun e w' => e = .returned (.tuple #[.int .i64 (n : Int), .bool true]) ∧ Below w.heap.size w w' := by
  obtain ⟨N, hN⟩ : ∃ N, w.heap.size = N := ⟨_, rfl⟩
  have HN : Hid (w.heap.size = N) := hN
  have hinj : ∀ k, k < n → ¬ (((markAt s k).1 : Int) = ((markAt s n).1 : Int) ∧ ((markAt s k).2 : Int) = ((markAt s n).2 : Int)) := by
    intro k hk ⟨e1, e2⟩
    have e : markAt s k = markAt s n := Prod.ext (by omega) (by omega)
    have := mark_inj s.data.toList k n (by simp; omega) (by simpa using hn) e
    omega
  obtain ⟨L, hL⟩ : ∃ L, L = ((markAt s n).1 : Int) := ⟨_, rfl⟩
  obtain ⟨C, hC⟩ : ∃ C, C = ((markAt s n).2 : Int) := ⟨_, rfl⟩
  rw [← hL, ← hC] at hinj ⊢
  have HI : Hid (∀ k, k < n → ¬ (((markAt s k).1 : Int) = L ∧ ((markAt s k).2 : Int) = C)) := hinj
  have HL : Hid (L = ((markAt s n).1 : Int) ∧ C = ((markAt s n).2 : Int)) := ⟨hL, hC⟩
  clear hinj hL hC
  go_enter Tryd.func12, Tryd.ntmps12
  go_wp2
  go_loopw [7] (fun i wr => ∃ (k : Nat) (a b : Int), k ≤ n ∧ i = .int .i64 k ∧ Blk wr N 23 #[.int .i64 L, .int .i64 C] ∧ Blk wr (N + 1) 23 #[.int .i64 a, .int .i64 b] ∧ Hid (a = ((markAt s k).1 : Int) ∧ b = ((markAt s k).2 : Int)) ∧ Below N w wr)
    (fun i _ => n - (intOf i).toNat)
  case atStart =>
    refine ⟨0, 1, 1, Nat.zero_le _, rfl, ?_, ?_, ?_, ?_⟩
    · exact (Blk.new' w N 23 _ hN).alloc _
    · exact Blk.new' _ _ 23 _ (by simp [hN])
    · show _ ∧ _; rw [markAt_zero]; exact ⟨rfl, rfl⟩
    · exact ((Below.refl N w).alloc (by simp [hN]) _).alloc (by simp [hN]) _
  case round =>
    obtain ⟨k, a, b, hk, rfl, c0, c1, hab, hb⟩ := hrel
    have q0 : wr.cell? ⟨N + 1, 0, none⟩ = some (.int .i64 a) := c1.cell 0
    have q1 : wr.cell? ⟨N + 1, 1, none⟩ = some (.int .i64 b) := c1.cell 1
    have q2 : wr.cell? ⟨N, 0, none⟩ = some (.int .i64 L) := c0.cell 0
    have q3 : wr.cell? ⟨N, 1, none⟩ = some (.int .i64 C) := c0.cell 1
    have f0 := c1.frozen 0
    have f1 := c1.frozen 1
    have b1 : a ≤ 281474976710657 := by have := hab.out; have := markAt_le s k; omega
    have b2 : b ≤ 281474976710658 := by have := hab.out; have := markAt_le s k; omega
    have b3 : 0 ≤ a := by have := hab.out; omega
    have b4 : 0 ≤ b := by have := hab.out; omega
    by_cases hlt : k < n
    · have hks : k < s.size := by omega
      have hnot : ¬ (a = L ∧ b = C) := by
        have := HI.out k hlt
        have := hab.out
        omega
      by_cases hnl : ((s[k].toNat : Int) == 10) = true
      · have HM : Hid (((markAt s (k + 1)).1 : Int) = a + 1 ∧ ((markAt s (k + 1)).2 : Int) = 1) := by
          show _ ∧ _; rw [markAt_nl s k hks hnl]; have := hab.out; simp only; omega
        by_cases e1 : a = L
        · subst e1
          have e2 : (b == C) = false := by simp; omega
          clear hnot
          go_wp2
          exact ⟨⟨k + 1, _, _, by omega, by go_num, (c0.other (by omega) 0 _).other (by omega) 1 _, (c1.set 0 _).set 1 _, ⟨HM.out.1.symm, HM.out.2.symm⟩, bset (bset hb (by omega) _) (by omega) _⟩, by simp [intOf]; omega⟩
        · have e2 : (a == L) = false := by simp [e1]
          clear hnot e1
          go_wp2
          exact ⟨⟨k + 1, _, _, by omega, by go_num, (c0.other (by omega) 0 _).other (by omega) 1 _, (c1.set 0 _).set 1 _, ⟨HM.out.1.symm, HM.out.2.symm⟩, bset (bset hb (by omega) _) (by omega) _⟩, by simp [intOf]; omega⟩
      · have hnl' : ((s[k].toNat : Int) == 10) = false := by simpa using hnl
        have HM : Hid (((markAt s (k + 1)).1 : Int) = a ∧ ((markAt s (k + 1)).2 : Int) = b + 1) := by
          show _ ∧ _; rw [markAt_more s k hks hnl']; have := hab.out; simp only; omega
        clear hnl
        by_cases e1 : a = L
        · subst e1
          have e2 : (b == C) = false := by simp; omega
          clear hnot
          go_wp2
          exact ⟨⟨k + 1, _, _, by omega, by go_num, (c0.other (by omega) 0 _).other (by omega) 1 _, (c1.set 0 _).set 1 _, ⟨HM.out.1.symm, HM.out.2.symm⟩, bset (bset hb (by omega) _) (by omega) _⟩, by simp [intOf]; omega⟩
        · have e2 : (a == L) = false := by simp [e1]
          clear hnot e1
          go_wp2
          exact ⟨⟨k + 1, _, _, by omega, by go_num, (c0.other (by omega) 0 _).other (by omega) 1 _, (c1.set 0 _).set 1 _, ⟨HM.out.1.symm, HM.out.2.symm⟩, bset (bset hb (by omega) _) (by omega) _⟩, by simp [intOf]; omega⟩
    · obtain rfl : k = n := by omega
      obtain ⟨h1, h2⟩ := hab.out
      obtain ⟨h3, h4⟩ := HL.out
      obtain rfl : a = L := by omega
      obtain rfl : b = C := by omega
      clear h1 h2 h3 h4
      go_wp2
      go_ret2
      exact ⟨rfl, by rw [HN.out]; exact hb⟩

set_option maxHeartbeats 1600000 in
theorem refAt_none (s : ByteArray) (hs : s.size ≤ 281474976710656) (L C : Int) (hno : ∀ i, i ≤ s.size → ¬ (((markAt s i).1 : Int) = L ∧ ((markAt s i).2 : Int) = C)) (w : World) :
    Calls Tryd.prog 12 #[.string s, .agg #[.int .i64 L, .int .i64 C]] w fun e w' => e = .returned (.tuple #[.int .i64 0, .bool false]) ∧ Below w.heap.size w w' := by
  obtain ⟨N, hN⟩ : ∃ N, w.heap.size = N := ⟨_, rfl⟩
  have HN : Hid (w.heap.size = N) := hN
  have HI : Hid (∀ k, k ≤ s.size → ¬ (((markAt s k).1 : Int) = L ∧ ((markAt s k).2 : Int) = C)) := hno
  clear hno
  go_enter Tryd.func12, Tryd.ntmps12
  go_wp2
  go_loopw [7] (fun i wr => ∃ (k : Nat) (a b : Int), k ≤ s.size + 1 ∧ i = .int .i64 k ∧ Blk wr N 23 #[.int .i64 L, .int .i64 C] ∧ Blk wr (N + 1) 23 #[.int .i64 a, .int .i64 b] ∧ Hid (k ≤ s.size → a = ((markAt s k).1 : Int) ∧ b = ((markAt s k).2 : Int)) ∧ Below N w wr)
    (fun i _ => s.size + 1 - (intOf i).toNat)
  case atStart =>
    refine ⟨0, 1, 1, Nat.zero_le _, rfl, ?_, ?_, ?_, ?_⟩
    · exact (Blk.new' w N 23 _ hN).alloc _
    · exact Blk.new' _ _ 23 _ (by simp [hN])
    · intro _; rw [markAt_zero]; exact ⟨rfl, rfl⟩
    · exact ((Below.refl N w).alloc (by simp [hN]) _).alloc (by simp [hN]) _
  case round =>
    obtain ⟨k, a, b, hk, rfl, c0, c1, hab, hb⟩ := hrel
    by_cases hle : k ≤ s.size
    · have hab := hab.out hle
      have HAB : Hid (a = ((markAt s k).1 : Int) ∧ b = ((markAt s k).2 : Int)) := hab
      have q0 : wr.cell? ⟨N + 1, 0, none⟩ = some (.int .i64 a) := c1.cell 0
      have q1 : wr.cell? ⟨N + 1, 1, none⟩ = some (.int .i64 b) := c1.cell 1
      have q2 : wr.cell? ⟨N, 0, none⟩ = some (.int .i64 L) := c0.cell 0
      have q3 : wr.cell? ⟨N, 1, none⟩ = some (.int .i64 C) := c0.cell 1
      have f0 := c1.frozen 0
      have f1 := c1.frozen 1
      have b1 : a ≤ 281474976710657 := by have := markAt_le s k; omega
      have b2 : b ≤ 281474976710658 := by have := markAt_le s k; omega
      have b3 : 0 ≤ a := by omega
      have b4 : 0 ≤ b := by omega
      have hnot : ¬ (a = L ∧ b = C) := by
        have := HI.out k hle
        omega
      clear hab
      by_cases hks : k < s.size
      · by_cases hnl : ((s[k].toNat : Int) == 10) = true
        · have HM : Hid (((markAt s (k + 1)).1 : Int) = a + 1 ∧ ((markAt s (k + 1)).2 : Int) = 1) := by
            show _ ∧ _; rw [markAt_nl s k hks hnl]; have := HAB.out; simp only; omega
          by_cases e1 : a = L
          · subst e1
            have e2 : (b == C) = false := by simp; omega
            clear hnot
            go_wp2
            exact ⟨⟨k + 1, _, _, by omega, by go_num, (c0.other (by omega) 0 _).other (by omega) 1 _, (c1.set 0 _).set 1 _, fun _ => ⟨HM.out.1.symm, HM.out.2.symm⟩, bset (bset hb (by omega) _) (by omega) _⟩, by simp [intOf]; omega⟩
          · have e2 : (a == L) = false := by simp [e1]
            clear hnot e1
            go_wp2
            exact ⟨⟨k + 1, _, _, by omega, by go_num, (c0.other (by omega) 0 _).other (by omega) 1 _, (c1.set 0 _).set 1 _, fun _ => ⟨HM.out.1.symm, HM.out.2.symm⟩, bset (bset hb (by omega) _) (by omega) _⟩, by simp [intOf]; omega⟩
        · have hnl' : ((s[k].toNat : Int) == 10) = false := by simpa using hnl
          have HM : Hid (((markAt s (k + 1)).1 : Int) = a ∧ ((markAt s (k + 1)).2 : Int) = b + 1) := by
            show _ ∧ _; rw [markAt_more s k hks hnl']; have := HAB.out; simp only; omega
          clear hnl
          by_cases e1 : a = L
          · subst e1
            have e2 : (b == C) = false := by simp; omega
            clear hnot
            go_wp2
            exact ⟨⟨k + 1, _, _, by omega, by go_num, (c0.other (by omega) 0 _).other (by omega) 1 _, (c1.set 0 _).set 1 _, fun _ => ⟨HM.out.1.symm, HM.out.2.symm⟩, bset (bset hb (by omega) _) (by omega) _⟩, by simp [intOf]; omega⟩
          · have e2 : (a == L) = false := by simp [e1]
            clear hnot e1
            go_wp2
            exact ⟨⟨k + 1, _, _, by omega, by go_num, (c0.other (by omega) 0 _).other (by omega) 1 _, (c1.set 0 _).set 1 _, fun _ => ⟨HM.out.1.symm, HM.out.2.symm⟩, bset (bset hb (by omega) _) (by omega) _⟩, by simp [intOf]; omega⟩
      · obtain rfl : k = s.size := by omega
        by_cases e1 : a = L
        · subst e1
          have e2 : (b == C) = false := by simp; omega
          clear hnot
          go_wp2
          exact ⟨⟨s.size + 1, _, _, by omega, by go_num, (c0.other (by omega) 0 _).other (by omega) 1 _, (c1.set 0 _).set 1 _, fun h => by omega, bset (bset hb (by omega) _) (by omega) _⟩, by simp [intOf]⟩
        · have e2 : (a == L) = false := by simp [e1]
          clear hnot e1
          go_wp2
          exact ⟨⟨s.size + 1, _, _, by omega, by go_num, (c0.other (by omega) 0 _).other (by omega) 1 _, (c1.set 0 _).set 1 _, fun h => by omega, bset (bset hb (by omega) _) (by omega) _⟩, by simp [intOf]⟩
    · clear hab
      go_wp2
      go_ret2
      exact ⟨rfl, by rw [HN.out]; exact hb⟩

end Go.Proofs.YtjmpacenlmoldaaDoor
