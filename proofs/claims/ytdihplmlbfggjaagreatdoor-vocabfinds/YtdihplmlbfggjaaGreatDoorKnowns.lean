/-
  Knowns: several texts in one file.
-/
import Derived.Test.YtdihplmlbfggjaaGreatDoorIndex
/-
  The contract of vocab.New.
-/
namespace Go.Proofs.YtdihplmlbfggjaaGreatDoor
open Go Go.RowKit Go.Maps

theorem metE_zero {ms : List ByteArray} {s : ByteArray} (h : metE ms s = 0) : wordB s = true ∧ s ∉ ms := by
  unfold metE at h
  split at h
  · cases h
  · rename_i h1
    split at h
    · cases h
    · rename_i h2
      exact ⟨by simpa using h1, fun hm => h2 ((inB_iff s ms).2 hm)⟩
theorem nodup_snoc {ms : List ByteArray} {s : ByteArray} (h : ms.Nodup) (hs : s ∉ ms) : (ms ++ [s]).Nodup := by
  rw [List.nodup_append]
  refine ⟨h, by simp, fun a ha b hb e => ?_⟩
  simp at hb
  subst hb
  subst e
  exact hs ha
theorem chkB_zero (l : List ByteArray) : ∀ ms : List ByteArray, ms.Nodup → chkB ms l = 0 → (ms ++ l).Nodup := by
  induction l with
  | nil => intro ms h _; simpa using h
  | cons s l ih =>
    intro ms h h0
    rw [chkB] at h0
    by_cases hm : metE ms s = 0
    · rw [if_pos hm] at h0
      have := ih (ms ++ [s]) (nodup_snoc h (metE_zero hm).2) h0
      simpa using this
    · rw [if_neg hm] at h0
      exact absurd h0 hm
theorem chkC_zero (nb : Int) (l : List Cn) : ∀ ms : List ByteArray, ms.Nodup → chkC nb ms l = 0 → (ms ++ l.map Cn.name).Nodup := by
  induction l with
  | nil => intro ms h _; simpa using h
  | cons c l ih =>
    intro ms h h0
    rw [chkC] at h0
    by_cases hm : metE ms c.name = 0
    · rw [if_pos hm] at h0
      by_cases hr : rightB nb c.ty = true
      · rw [if_pos hr] at h0
        have := ih (ms ++ [c.name]) (nodup_snoc h (metE_zero hm).2) h0
        simpa using this
      · rw [if_neg hr] at h0
        cases h0
    · rw [if_neg hm] at h0
      exact absurd h0 hm
theorem chkB_words (l : List ByteArray) : ∀ ms : List ByteArray, chkB ms l = 0 → ∀ s ∈ l, wordB s = true := by
  induction l with
  | nil => intro ms _ s hs; cases hs
  | cons x l ih =>
    intro ms h0 s hs
    rw [chkB] at h0
    by_cases hm : metE ms x = 0
    · rw [if_pos hm] at h0
      rcases List.mem_cons.1 hs with rfl | hs
      · exact (metE_zero hm).1
      · exact ih _ h0 s hs
    · rw [if_neg hm] at h0
      exact absurd h0 hm
theorem chkC_words (nb : Int) (l : List Cn) : ∀ ms : List ByteArray, chkC nb ms l = 0 → ∀ c ∈ l, wordB c.name = true := by
  induction l with
  | nil => intro ms _ s hs; cases hs
  | cons x l ih =>
    intro ms h0 s hs
    rw [chkC] at h0
    by_cases hm : metE ms x.name = 0
    · rw [if_pos hm] at h0
      by_cases hr : rightB nb x.ty = true
      · rw [if_pos hr] at h0
        rcases List.mem_cons.1 hs with rfl | hs
        · exact (metE_zero hm).1
        · exact ih _ h0 s hs
      · rw [if_neg hr] at h0
        cases h0
    · rw [if_neg hm] at h0
      exact absurd h0 hm
theorem chk_small {bs : List ByteArray} {cs : List Cn} (h : chk bs cs = 0) : ∀ s ∈ bs ++ cs.map Cn.name, s.size ≤ 30 := by
  unfold chk at h
  split at h
  · cases h
  · split at h
    · rename_i h2
      intro s hs
      rcases List.mem_append.1 hs with hs | hs
      · exact Lx.just_short s (chkB_words bs [] h2 s hs)
      · obtain ⟨c, hc, rfl⟩ := List.mem_map.1 hs
        exact Lx.just_short c.name (chkC_words _ cs bs h c hc)
    · rename_i h2
      exact absurd h h2
theorem rightT {bs : List ByteArray} {cs : List Cn} (h : chk bs cs = 0) (fs : FitS bs) (fc : FitC cs) : RightT bs cs := by
  have hsm := chk_small h
  unfold chk at h
  split at h
  · cases h
  · rename_i h1
    split at h
    · rename_i h2
      refine ⟨fs, fc, by omega, ?_, hsm⟩
      have := chkB_zero bs [] List.nodup_nil h2
      exact chkC_zero _ cs bs (by simpa using this) h
    · rename_i h2
      exact absurd h h2

set_option maxRecDepth 100000 in
set_option maxHeartbeats 1600000 in
theorem New_calls (bs : List ByteArray) (cs : List Cn) (ok : Nat → Prop) (va vb : Value) (w : World) (hS : HoldsS w ok bs va) (hC : HoldsC w ok cs vb) (fs : FitS bs) (fc : FitC cs) (hlen : bs.length + cs.length ≤ 1000000) :
    Calls Tryz.prog 6 #[tab va vb] w fun e w' => ∃ p, e = .returned (.tuple #[.pointer p, .int .i64 (chk bs cs : Int)]) ∧ (chk bs cs ≠ 0 → p = none) ∧ (chk bs cs = 0 → ∃ B, p = some ⟨B, 0, none⟩ ∧ w.heap.size ≤ B ∧ Ix w' B bs cs) ∧ Below w.heap.size w w' := by
  obtain ⟨xa, xc, rfl, _⟩ := hS.shape
  obtain ⟨ya, yc, rfl, _⟩ := hC.shape
  obtain ⟨nb, hnb⟩ : ∃ nb, bs.length = nb := ⟨_, rfl⟩
  obtain ⟨nc, hnc⟩ : ∃ nc, cs.length = nc := ⟨_, rfl⟩
  rw [hnb] at hS
  rw [hnc] at hC
  rw [hnb, hnc]
  obtain ⟨N, hN⟩ : ∃ N, w.heap.size = N := ⟨_, rfl⟩
  obtain ⟨W, hW⟩ : ∃ W, w.alloc (.cells #[.slice xa nb xc, .slice ya nc yc] 28) = W := ⟨_, rfl⟩
  have bW : Blk W N 28 #[.slice xa nb xc, .slice ya nc yc] := by rw [← hW]; exact Blk.new' _ N 28 _ hN
  have blW : Below N w W := by rw [← hW]; exact (Below.refl _ _).alloc (by omega) _
  have hCk := Check_calls bs cs ok _ _ W (hS.bel (by rw [hN]; exact blW)) (hC.bel (by rw [hN]; exact blW)) fs fc hlen
  have hF := fun (hc0 : chk bs cs = 0) (w1 : World) (hb : Below N w w1) => vfresh_calls bs cs ok _ _ w1 (hS.bel (by rw [hN]; exact hb)) (hC.bel (by rw [hN]; exact hb)) (chk_small hc0) fc hlen
  clear hS hC hnb hnc
  rw [hN]
  have hWN := bW.lt
  obtain ⟨r, hr⟩ : ∃ r, chk bs cs = r := ⟨_, rfl⟩
  rw [hr] at hCk ⊢
  by_cases h0 : r = 0
  · subst h0
    have hF := hF hr
    have z0 : ((0 : Int) != 0) = false := by simp
    have c0 := bW.cell 0
    have c1 := bW.cell 1
    go_enter Tryz.func6, Tryz.ntmps6
    go_wp2_with (first
      | (go_at_call 21; refine hCk.mono ?_; rintro e w1 ⟨rfl, hb1⟩; have hB1 : Below N w w1 := blW.trans (hb1.mono (by omega)); have b1 := bW.below hb1 bW.lt; have d0 := b1.cell 0; have d1 := b1.cell 1)
      | (go_at_call 22; refine (hF _ hB1).mono ?_; rintro e w2 ⟨v1, v2, rfl, hs2, hc2, hb2⟩))
    have hl2 := hb2.size
    have hl1 := hB1.size
    have hlN : N < w1.heap.size := b1.lt
    have hB2 : Below N w w2 := hB1.trans (hb2.mono (by omega))
    refine bodyPost_ret (v := .tuple #[.pointer (some ⟨w2.heap.size, 0, none⟩), .int .i64 0]) (by simp [results, Tryz.results6, go_sem]) rfl ?_
    refine ⟨_, rfl, fun h => absurd rfl h, fun _ => ⟨w2.heap.size, rfl, by omega, v1, v2, 0, none, Blk.new _ 77 _, ?_, ?_, .inl ⟨rfl, rfl⟩⟩, hB2.alloc (by omega) _⟩
    · exact (hs2.mono (ok' := fun b => b ≠ w2.heap.size) (fun b hb _ => by omega)).alloc _
    · exact (hc2.mono (ok' := fun b => b ≠ w2.heap.size) (fun b hb _ => by omega)).alloc _
  · have z0 : ((r : Int) != 0) = true := by simpa using h0
    have c0 := bW.cell 0
    have c1 := bW.cell 1
    go_enter Tryz.func6, Tryz.ntmps6
    go_wp2_with (go_at_call 21; refine hCk.mono ?_; rintro e w1 ⟨rfl, hb1⟩)
    refine bodyPost_ret (v := .tuple #[.pointer none, .int .i64 r]) (by simp [results, Tryz.results6, go_sem]) rfl ?_
    exact ⟨none, rfl, fun _ => rfl, fun h => absurd h h0, blW.trans (hb1.mono (by omega))⟩

end Go.Proofs.YtdihplmlbfggjaaGreatDoor

/-
  The contracts of (*Index).Const and Has.
-/
namespace Go.Proofs.YtdihplmlbfggjaaGreatDoor
open Go Go.RowKit Go.Maps

theorem inB_false {s : ByteArray} {ms : List ByteArray} (h : inB s ms = false) : s ∉ ms := fun hm => by rw [(inB_iff s ms).2 hm] at h; cases h

/-- What an index says where there is none. -/
theorem Const_nil (s : ByteArray) (w : World) : Calls Tryz.prog 10 #[.pointer none, .string s] w fun e w' => e = .returned (.tuple #[.int .i64 0, .int .i64 13]) ∧ w = w' := by
  go_enter Tryz.func10, Tryz.ntmps10
  go_wp2
  refine bodyPost_ret (v := .tuple #[.int .i64 0, .int .i64 13]) (by simp [results, Tryz.results10, go_sem]) rfl ?_
  exact ⟨rfl, rfl⟩

set_option maxRecDepth 100000 in
set_option maxHeartbeats 1600000 in
theorem Const_calls (bs : List ByteArray) (cs : List Cn) (hT : RightT bs cs) (s : ByteArray) (hs : s.size ≤ 281474976710656) (B : Nat) (w : World) (hI : Ix w B bs cs) :
    Calls Tryz.prog 10 #[.pointer (some ⟨B, 0, none⟩), .string s] w fun e w' => ∃ c er : Int, e = .returned (.tuple #[.int .i64 c, .int .i64 er]) ∧ (∀ i : Nat, (cs.map Cn.name)[i]? = some s → c = (i : Int) ∧ er = 0) ∧ (s ∉ cs.map Cn.name → c = 0 ∧ er = 10) ∧ Ix w' B bs cs ∧ Only [B] w w' := by
  have hnot : ∀ (x : Bool) (w : World), (Op.unary .not (.bool x)).run Tryz.prog w = .ok (.bool (!x)) w := fun _ _ => rfl
  have hf := find_calls bs cs hT s hs B w hI
  have hln := hT.len
  clear hI
  by_cases hm : inB s (names bs cs) = true
  · obtain ⟨i, hi⟩ := List.getElem?_of_mem ((inB_iff _ _).1 hm)
    rw [hm] at hf
    obtain ⟨nb, hnb⟩ : ∃ nb, bs.length = nb := ⟨_, rfl⟩
    have hil := (List.getElem?_eq_some_iff.1 hi).1
    rw [names, List.length_append, List.length_map] at hil
    have HNB : Hid (bs.length = nb) := hnb
    rw [hnb] at hil hln
    by_cases hlt : i < nb
    · have HX : Hid (s ∉ cs.map Cn.name) := fun hmem => by
        rw [names, List.getElem?_append_left (by omega)] at hi
        have := (List.nodup_append.1 hT.nodup).2.2 s (List.mem_of_getElem? hi) s hmem
        exact this rfl
      have z1 : decide ((i : Int) < (nb : Int)) = true := by simp; omega
      clear hnb
      go_enter Tryz.func10, Tryz.ntmps10
      go_wp2_with (go_at_call 28; refine hf.mono ?_; rintro e w1 ⟨c, rfl, hc, hI, hO⟩; obtain rfl := hc i hi; have hI2 := hI; obtain ⟨va, vb, d, m, hB, hS, _⟩ := hI; obtain ⟨xa, xc, rfl, _⟩ := hS.shape; rw [HNB.out] at hB; have s0 := hB.cell 0; clear hc hB hS)
      refine bodyPost_ret (v := .tuple #[.int .i64 0, .int .i64 10]) (by simp [results, Tryz.results10, go_sem]) rfl ?_
      exact ⟨0, 10, rfl, fun j hj => absurd (List.mem_of_getElem? hj) HX.out, fun _ => ⟨rfl, rfl⟩, hI2, hO⟩
    · have HX : Hid ((cs.map Cn.name)[i - nb]? = some s) := by
        show _ = _
        rw [names, List.getElem?_append_right (by omega), hnb] at hi
        exact hi
      have HU : Hid (∀ j : Nat, (cs.map Cn.name)[j]? = some s → j = i - nb) := fun j hj => by
        have hd := (List.nodup_append.1 hT.nodup).2.1
        exact (List.getElem?_inj (List.getElem?_eq_some_iff.1 hj).1 hd).1 (hj.trans HX.out.symm)
      have z1 : decide ((i : Int) < (nb : Int)) = false := by simp; omega
      have HW : Hid (IntKind.i64.wrap ((i : Int) - (nb : Int)) = ((i - nb : Nat) : Int)) := by show _ = _; rw [IntKind.wrap_i64]; omega
      clear hnb
      go_enter Tryz.func10, Tryz.ntmps10
      go_wp2_with (go_at_call 28; refine hf.mono ?_; rintro e w1 ⟨c, rfl, hc, hI, hO⟩; obtain rfl := hc i hi; have hI2 := hI; obtain ⟨va, vb, d, m, hB, hS, _⟩ := hI; obtain ⟨xa, xc, rfl, _⟩ := hS.shape; rw [HNB.out] at hB; have s0 := hB.cell 0; clear hc hB hS)
      refine bodyPost_ret (v := .tuple #[.int .i64 (((i - nb : Nat)) : Int), .int .i64 0]) (by simp [results, Tryz.results10, go_sem]; omega) rfl ?_
      exact ⟨_, 0, rfl, fun j hj => ⟨by rw [HU.out j hj], rfl⟩, fun h => absurd (List.mem_of_getElem? HX.out) h, hI2, hO⟩
  · have hm' : inB s (names bs cs) = false := by simpa using hm
    have hX : s ∉ cs.map Cn.name := fun h => inB_false hm' (by rw [names]; exact List.mem_append_right _ h)
    rw [hm'] at hf
    go_enter Tryz.func10, Tryz.ntmps10
    go_wp2_with (go_at_call 28; refine hf.mono ?_; rintro e w1 ⟨c, rfl, hc, hI, hO⟩)
    refine bodyPost_ret (v := .tuple #[.int .i64 0, .int .i64 10]) (by simp [results, Tryz.results10, go_sem]) rfl ?_
    exact ⟨0, 10, rfl, fun j hj => absurd (List.mem_of_getElem? hj) hX, fun _ => ⟨rfl, rfl⟩, hI, hO⟩

end Go.Proofs.YtdihplmlbfggjaaGreatDoor

/-
  The contract of (*Index).Has.
-/
namespace Go.Proofs.YtdihplmlbfggjaaGreatDoor
open Go Go.RowKit Go.Maps

/-- Where there is no index: each of no names is one. -/
theorem Has_nil0 (w : World) : Calls Tryz.prog 18 #[.pointer none, .slice none 0 0] w fun e w' => e = .returned (.bool true) ∧ w = w' := by
  have z0 : decide ((0 : Int) < (0 : Int)) = false := by simp
  go_enter Tryz.func18, Tryz.ntmps18
  go_wp2
  go_loopw [11] (fun i wr => i = .int .i64 0 ∧ w = wr) (fun _ _ => 1)
  case atStart => exact ⟨rfl, rfl⟩
  case round =>
    obtain ⟨rfl, rfl⟩ := hrel
    go_wp2
    go_ret
    exact ⟨rfl, rfl⟩
/-- Where there is no index: a name is none. -/
theorem Has_nil1 (g : Nat) (s : ByteArray) (w : World) (hc : w.cell? ⟨g, 0, none⟩ = some (.string s)) : Calls Tryz.prog 18 #[.pointer none, .slice (some ⟨g, 0, none⟩) 1 1] w fun e w' => e = .returned (.bool false) ∧ w = w' := by
  have z0 : decide ((0 : Int) < (1 : Int)) = true := by simp
  go_enter Tryz.func18, Tryz.ntmps18
  go_wp2
  go_loopw [11] (fun i wr => i = .int .i64 0 ∧ w = wr) (fun _ _ => 1)
  case atStart => exact ⟨rfl, rfl⟩
  case round =>
    obtain ⟨rfl, rfl⟩ := hrel
    go_wp2
    go_ret
    exact ⟨rfl, rfl⟩

set_option maxRecDepth 100000 in
set_option maxHeartbeats 1600000 in
theorem Has_calls (bs : List ByteArray) (cs : List Cn) (hT : RightT bs cs) (qs : List ByteArray) (fq : FitS qs) (ok : Nat → Prop) (v : Value) (B : Nat) (w : World) (hI : Ix w B bs cs) (hQ : HoldsS w ok qs v) (hok : ¬ ok B) (hql : qs.length ≤ 1000000) :
    Calls Tryz.prog 18 #[.pointer (some ⟨B, 0, none⟩), v] w fun e w' => e = .returned (.bool (qs.all fun s => inB s (names bs cs))) ∧ Ix w' B bs cs ∧ Only [B] w w' := by
  have hnot : ∀ (x : Bool) (w : World), (Op.unary .not (.bool x)).run Tryz.prog w = .ok (.bool (!x)) w := fun _ _ => rfl
  have hQ' : HoldsS w (fun b => b < w.heap.size ∧ b ≠ B) qs v := hQ.mono fun b hb ho => ⟨hb, fun e => hok (e ▸ ho)⟩
  obtain ⟨a, cap, rfl, hcap, hnil, hat⟩ := hQ'
  have HA : Hid _ := hat
  obtain ⟨n, hn⟩ : ∃ n, qs.length = n := ⟨_, rfl⟩
  have HN : Hid (qs.length = n) := hn
  rw [hn] at hcap hql ⊢
  clear hat hn hnil hQ
  have O0 := Only.refl [B] w
  go_enter Tryz.func18, Tryz.ntmps18
  go_wp2
  go_loopw [11] (fun i wr => ∃ k : Nat, k ≤ n ∧ i = .int .i64 k ∧ Ix wr B bs cs ∧ Only [B] w wr ∧ Hid (∀ j s, j < k → qs[j]? = some s → inB s (names bs cs) = true)) (fun i _ => n - (intOf i).toNat)
  case atStart => exact ⟨0, Nat.zero_le _, rfl, hI, O0, fun j s h => absurd h (Nat.not_lt_zero _)⟩
  case round =>
    clear hI O0
    obtain ⟨k, hk, rfl, hI, O0, HK⟩ := hrel
    by_cases hlt : k < n
    · obtain ⟨s, hs⟩ : ∃ s, qs[k]? = some s := ⟨_, List.getElem?_eq_getElem (by rw [HN.out]; exact hlt)⟩
      obtain ⟨g, o, rfl, ⟨hg, hgB⟩, q0⟩ := HA.out k s hs
      have q1 := (O0.cell (p := ⟨g, o + k, none⟩) hg (by simpa using hgB)).trans q0
      have y1 : (0 : Int) ≤ (k : Int) := by omega
      have y2 : (k : Int) < (n : Int) := by omega
      have z1 : decide ((k : Int) < (n : Int)) = true := by simp; omega
      have hf := find_calls bs cs hT s (fq s (List.mem_of_getElem? hs)) B wr hI
      obtain ⟨b, hb⟩ : ∃ b, inB s (names bs cs) = b := ⟨_, rfl⟩
      rw [hb] at hf
      have HB : Hid (inB s (names bs cs) = b) := hb
      have HS : Hid (qs[k]? = some s) := hs
      clear hb hs q0 hI
      cases b
      · go_wp2_with (go_at_call 28; refine hf.mono ?_; rintro e w1 ⟨c, rfl, _, hI, hO⟩)
        go_ret
        refine ⟨?_, hI, O0.trans hO⟩
        rw [show (qs.all fun s => inB s (names bs cs)) = false from List.all_eq_false.2 ⟨s, List.mem_of_getElem? HS.out, by rw [HB.out]; simp⟩]
        rfl
      · go_wp2_with (go_at_call 28; refine hf.mono ?_; rintro e w1 ⟨c, rfl, _, hI, hO⟩)
        refine ⟨⟨k + 1, by omega, by go_num, hI, O0.trans hO, fun j t hj ht => ?_⟩, by simp [intOf]; omega⟩
        by_cases hjk : j < k
        · exact HK.out j t hjk ht
        · obtain rfl : j = k := by omega
          have := HS.out.symm.trans ht
          cases this
          exact HB.out
    · obtain rfl : k = n := by omega
      have z1 : decide ((k : Int) < (k : Int)) = false := by simp
      go_wp2
      go_ret
      refine ⟨?_, hI, O0⟩
      have hall : (qs.all fun s => inB s (names bs cs)) = true := List.all_eq_true.2 fun s hs => by
        obtain ⟨j, hj⟩ := List.getElem?_of_mem hs
        exact HK.out j s (by have := (List.getElem?_eq_some_iff.1 hj).1; rw [HN.out] at this; exact this) hj
      rw [hall]
      rfl

end Go.Proofs.YtdihplmlbfggjaaGreatDoor

/-
  The contract of (*Index).Fresh.
-/
namespace Go.Proofs.YtdihplmlbfggjaaGreatDoor
open Go Go.RowKit Go.Maps

/-- The words that are asked for, one by one. -/
def cand (s : ByteArray) (k : Nat) : ByteArray := if k = 0 then s else s ++ ⟨(Lib.decDigits k).toArray⟩

theorem digs_small : ∀ j : Fin 100, (Lib.decDigits j.val).toArray.size ≤ 20000 := by decide +kernel
theorem Fresh_nil (s : ByteArray) (w : World) : Calls Tryz.prog 24 #[.pointer none, .string s] w fun e w' => e = .returned (.tuple #[.string ⟨#[]⟩, .int .i64 13]) ∧ w = w' := by
  go_enter Tryz.func24, Tryz.ntmps24
  go_wp2
  refine bodyPost_ret (v := .tuple #[.string ⟨#[]⟩, .int .i64 13]) (by simp [results, Tryz.results24, go_sem]) rfl ?_
  exact ⟨rfl, rfl⟩

theorem Fresh_form (s : ByteArray) (hs : s.size ≤ 20000) (hw : wordB s = false) (B : Nat) (w : World) :
    Calls Tryz.prog 24 #[.pointer (some ⟨B, 0, none⟩), .string s] w fun e w' => e = .returned (.tuple #[.string ⟨#[]⟩, .int .i64 3]) ∧ w = w' := by
  have hnot : ∀ (x : Bool) (w : World), (Op.unary .not (.bool x)).run Tryz.prog w = .ok (.bool (!x)) w := fun _ _ => rfl
  have hW := Lx.IsWord_calls s (by omega)
  rw [show Lx.justB s 1 = false from hw] at hW
  go_enter Tryz.func24, Tryz.ntmps24
  go_wp2_with (go_at_call 36; refine (hW _).mono ?_; rintro e w' ⟨rfl, rfl⟩)
  refine bodyPost_ret (v := .tuple #[.string ⟨#[]⟩, .int .i64 3]) (by simp [results, Tryz.results24, go_sem]) rfl ?_
  exact ⟨rfl, rfl⟩

set_option maxRecDepth 100000 in
set_option maxHeartbeats 1600000 in
theorem Fresh_calls (bs : List ByteArray) (cs : List Cn) (hT : RightT bs cs) (s : ByteArray) (hs : s.size ≤ 20000) (hw : wordB s = true) (k : Nat) (hk : k < 100) (hin : ∀ j, j < k → inB (cand s j) (names bs cs) = true) (hout : inB (cand s k) (names bs cs) = false) (B : Nat) (w : World) (hI : Ix w B bs cs) :
    Calls Tryz.prog 24 #[.pointer (some ⟨B, 0, none⟩), .string s] w fun e w' => e = .returned (if 30 < (cand s k).size then .tuple #[.string ⟨#[]⟩, .int .i64 2] else .tuple #[.string (cand s k), .int .i64 0]) ∧ Ix w' B bs cs ∧ Only [B] w w' := by
  have hnot : ∀ (x : Bool) (w : World), (Op.unary .not (.bool x)).run Tryz.prog w = .ok (.bool (!x)) w := fun _ _ => rfl
  have hW := Lx.IsWord_calls s (by omega)
  rw [show Lx.justB s 1 = true from hw] at hW
  have hCl := Clone_calls s (by omega)
  have hlB := hI.lt
  have O0 := Only.refl [B] w
  obtain ⟨rv, hrv⟩ : ∃ rv, (if 30 < (cand s k).size then Value.tuple #[.string ⟨#[]⟩, .int .i64 2] else .tuple #[.string (cand s k), .int .i64 0]) = rv := ⟨_, rfl⟩
  rw [hrv]
  have HRV : Hid ((if 30 < (cand s k).size then Value.tuple #[.string ⟨#[]⟩, .int .i64 2] else .tuple #[.string (cand s k), .int .i64 0]) = rv) := hrv
  clear hrv
  go_enter Tryz.func24, Tryz.ntmps24
  go_wp2_with (first
    | (go_at_call 36; refine (hW _).mono ?_; rintro e w' ⟨rfl, rfl⟩)
    | (go_at_call 31; refine (hCl _).mono ?_; rintro e w1 ⟨rfl, hb1⟩; have hI1 := hI.bel hb1; have O1 : Only [B] w w1 := Only.of_below' hb1))
  go_loopw [6, 7] (fun x i wr => ∃ j : Nat, j ≤ k ∧ x = .string (cand s j) ∧ i = .int .i64 ((j : Int) + 1) ∧ Ix wr B bs cs ∧ Only [B] w wr) (fun _ i _ => k + 1 - (intOf i).toNat)
  case atStart => exact ⟨0, Nat.zero_le _, rfl, rfl, hI1, O1⟩
  case round =>
    clear hI O0 hI1 O1 hb1
    obtain ⟨j, hj, rfl, rfl, hI, O0⟩ := hrel
    obtain ⟨N, hN⟩ : ∃ N, wr.heap.size = N := ⟨_, rfl⟩
    obtain ⟨x, hx⟩ : ∃ x, cand s j = x := ⟨_, rfl⟩
    rw [hx]
    obtain ⟨W, hW⟩ : ∃ W, wr.alloc (.cells #[.string x] 9) = W := ⟨_, rfl⟩
    have bW : Blk W N 9 #[.string x] := by rw [← hW]; exact Blk.new' _ N 9 _ hN
    have O1 : Only [B] w W := by rw [← hW]; exact O0.alloc _
    have hNB : N ≠ B := by have := hI.lt; omega
    have hIW : Ix W B bs cs := hI.bel (by rw [← hW]; exact (Below.refl _ _).alloc (Nat.le_refl _) _)
    have hQ : HoldsS W (fun b => b ≠ B) [x] (.slice (some ⟨N, 0, none⟩) 1 1) := ⟨some ⟨N, 0, none⟩, 1, rfl, Nat.le_refl _, (fun h => by cases h), fun i t hi => by
      have : i = 0 := by have := (List.getElem?_eq_some_iff.1 hi).1; simp at this; omega
      subst this
      obtain rfl : x = t := by simpa using hi
      exact ⟨N, 0, rfl, hNB, bW.cell 0⟩⟩
    have hxs : x.size ≤ 40000 := by
      rw [← hx]
      unfold cand
      split
      · omega
      · rw [ByteArray.size_append]
        have : (⟨(Lib.decDigits j).toArray⟩ : ByteArray).size ≤ 20000 := by
          show (Lib.decDigits j).toArray.size ≤ 20000
          exact digs_small ⟨j, by omega⟩
        omega
    have hH := Has_calls bs cs hT [x] (fun t ht => by simp at ht; subst ht; omega) (fun b => b ≠ B) _ B W hIW hQ (by simp) (by simp)
    by_cases hlt : j < k
    · have hb := hin j hlt
      rw [hx] at hb
      rw [show ([x].all fun s => inB s (names bs cs)) = true from by simp [hb]] at hH
      have hIt := Tryz.strconv_Itoa_small (j + 1) (by omega)
      have hc1 : cand s (j + 1) = s ++ ⟨(Lib.decDigits (j + 1)).toArray⟩ := by unfold cand; rw [if_neg (by omega)]
      have HC : Hid (cand s (j + 1) = s ++ ⟨(Lib.decDigits (j + 1)).toArray⟩) := hc1
      have hdg : (⟨(Lib.decDigits (j + 1)).toArray⟩ : ByteArray).size ≤ 20000 := digs_small ⟨j + 1, by omega⟩
      clear hb hx hc1 hQ bW hI
      generalize (⟨(Lib.decDigits (j + 1)).toArray⟩ : ByteArray) = dg at *
      go_wp2_with (first
        | (go_at_call 18; refine hH.mono ?_; rintro e w2 ⟨rfl, hI2, hO2⟩)
        | (go_at_call 37; refine (hIt _).mono ?_; rintro e w3 ⟨rfl, rfl⟩))
      exact ⟨⟨j + 1, by omega, by rw [HC.out], by go_num, hI2, O1.trans hO2⟩, by simp [intOf]; omega⟩
    · obtain rfl : j = k := by omega
      rw [hx] at hout
      rw [show ([x].all fun s => inB s (names bs cs)) = false from by simp [hout]] at hH
      have HXX : Hid (cand s j = x) := hx
      by_cases hbig : 30 < x.size
      · have z0 : decide ((30 : Int) < (x.size : Int)) = true := by simp; omega
        clear hQ bW hI hx
        go_wp2_with (go_at_call 18; refine hH.mono ?_; rintro e w2 ⟨rfl, hI2, hO2⟩)
        rw [← HRV.out, HXX.out, if_pos hbig]
        refine bodyPost_ret (v := .tuple #[.string ⟨#[]⟩, .int .i64 2]) (by simp [results, Tryz.results24, go_sem]) rfl ?_
        exact ⟨rfl, hI2, O1.trans hO2⟩
      · have z0 : decide ((30 : Int) < (x.size : Int)) = false := by simp; omega
        clear hQ bW hI hx
        go_wp2_with (go_at_call 18; refine hH.mono ?_; rintro e w2 ⟨rfl, hI2, hO2⟩)
        rw [← HRV.out, HXX.out, if_neg hbig]
        refine bodyPost_ret (v := .tuple #[.string x, .int .i64 0]) (by simp [results, Tryz.results24, go_sem]) rfl ?_
        exact ⟨rfl, hI2, O1.trans hO2⟩

end Go.Proofs.YtdihplmlbfggjaaGreatDoor

/-
  The chapter's example, in plain words.
-/
namespace Go.Proofs.YtdihplmlbfggjaaGreatDoor
open Go Go.RowKit Go.Maps

def okT : Nat → Prop := fun _ => True
theorem Holds.t {w : World} {ok : Nat → Prop} {ts : List Ty} {v : Value} (h : Holds w ok ts v) : Holds w okT ts v := h.mono fun _ _ _ => trivial
/-- A slice of types that is built of values. -/
theorem holds_built (w : World) (B : Nat) (hB : w.heap.size = B) (ps : List (Value × Ty)) (e : TypeId) (hk : ∀ p ∈ ps, Holds w okT p.2.args p.1) (n : Nat) (hn : n = ps.length) (cs : Array Value) (hcs : cs = (pcells ps).toArray) : Holds (w.alloc (.cells cs e)) okT (ps.map (·.2)) (.slice (some ⟨B, 0, none⟩) n n) := by
  subst hcs
  subst hn
  have hb := Blk.new' w B e (pcells ps).toArray hB
  have hq : ∀ (i : Nat) (u : Ty), (ps.map (·.2))[i]? = some u → ∃ p : Value × Ty, ps[i]? = some p ∧ p.2 = u := by
    intro i u hi
    rw [List.getElem?_map] at hi
    exact Option.map_eq_some_iff.1 hi
  have := Holds.mk (w := w.alloc (.cells (pcells ps).toArray e)) (ok := okT) (ps.map (·.2)) (some ⟨B, 0, none⟩) ps.length (fun i => ((ps[i]?).map (·.1)).getD undef) (by simp) (fun h => by cases h)
    (fun i u hi => by
      obtain ⟨p, hp, rfl⟩ := hq i u hi
      obtain ⟨c0, c1⟩ := pcells_get ps i p hp
      refine ⟨B, 0, rfl, trivial, ?_, ?_⟩
      · rw [Nat.zero_add, hb.cell, List.getElem?_toArray, c0, hp]; rfl
      · rw [Nat.zero_add, hb.cell, List.getElem?_toArray, c1])
    (fun i u hi => by
      obtain ⟨p, hp, rfl⟩ := hq i u hi
      rw [hp]
      exact (hk p (List.mem_of_getElem? hp)).alloc _)
  rwa [List.length_map] at this

def sNat : ByteArray := ⟨#[110, 97, 116]⟩
def sZ : ByteArray := ⟨#[122]⟩
def sS : ByteArray := ⟨#[115]⟩
def tA : Ty := .mk [] 0
def tAA : Ty := .mk [tA] 0
def csK : List Cn := [⟨sZ, tA⟩, ⟨sS, tAA⟩]
theorem wNat : wordB sNat = true := by decide +kernel
theorem wZ : wordB sZ = true := by decide +kernel
theorem wS : wordB sS = true := by decide +kernel
theorem chkK : chk [sNat] csK = 0 := by decide +kernel
theorem chkN : chk [sNat] [⟨sNat, tA⟩] = 4 := by decide +kernel
theorem inZ0 : inB (cand sZ 0) (names [sNat] csK) = true := by decide +kernel
theorem inZ1 : inB (cand sZ 1) (names [sNat] csK) = false := by decide +kernel
theorem candZ : cand sZ 1 = ⟨#[122, 49]⟩ := by decide +kernel
theorem fitN : FitS [sNat] := fun s h => by simp at h; subst h; decide +kernel
theorem fitK : FitC csK := fun c h => by
  rcases List.mem_cons.1 h with rfl | h
  · exact ⟨by decide +kernel, by decide +kernel⟩
  · obtain rfl : c = ⟨sS, tAA⟩ := by simpa using h
    exact ⟨by decide +kernel, by decide +kernel⟩
theorem fitN2 : FitC [⟨sNat, tA⟩] := fun c h => by
  obtain rfl : c = ⟨sNat, tA⟩ := by simpa using h
  exact ⟨by decide +kernel, by decide +kernel⟩
theorem kS : ([⟨sZ, tA⟩, ⟨sS, tAA⟩].map Cn.name)[1]? = some sS := rfl

end Go.Proofs.YtdihplmlbfggjaaGreatDoor

/-
  The chapter's example ('known').
-/
namespace Go.Proofs.YtdihplmlbfggjaaGreatDoor
open Go Go.RowKit Go.Maps

theorem holdsS_one (W : World) (N : Nat) (s : ByteArray) (h : Blk W N 9 #[.string s]) : HoldsS W okT [s] (.slice (some ⟨N, 0, none⟩) 1 1) :=
  ⟨some ⟨N, 0, none⟩, 1, rfl, Nat.le_refl _, (fun h => by cases h), fun i t hi => by
    have : i = 0 := by have := (List.getElem?_eq_some_iff.1 hi).1; simp at this; omega
    subst this
    obtain rfl : s = t := by simpa using hi
    exact ⟨N, 0, rfl, trivial, h.cell 0⟩⟩

set_option maxRecDepth 100000 in
set_option maxHeartbeats 3200000 in
theorem known_calls (w : World) : Calls Tryz.prog 7 #[] w fun e w' => e = .returned (.bool true) ∧ Below w.heap.size w w' := by
  obtain ⟨N, hN⟩ : ∃ N, w.heap.size = N := ⟨_, rfl⟩
  rw [hN]
  obtain ⟨W, hW⟩ : ∃ W, w.alloc (.cells #[.string ⟨#[110, 97, 116]⟩] 9) = W := ⟨_, rfl⟩
  have bW : Blk W N 9 #[.string sNat] := by rw [← hW]; exact Blk.new' _ N 9 _ hN
  have B0 : Below N w W := by rw [← hW]; exact (Below.refl _ _).alloc (by omega) _
  have lW := bW.lt
  go_enter Tryz.func7, Tryz.ntmps7
  go_wp2_with fail
  refine (kOf_calls 0 [] okT (.slice none 0 0) _ (Holds.nil _ _ _ _ (fun _ => rfl)) (by simp [sizeL])).mono ?_
  rintro e w1 ⟨v1, rfl, h1, hb1⟩
  obtain ⟨a1, c1, rfl, _⟩ := h1.shape
  have h1' := h1.t
  clear h1
  have b1 := bW.below hb1 bW.lt
  have B1 : Below N w w1 := B0.trans (hb1.mono (by omega))
  have l1 := b1.lt
  clear hb1 B0 bW
  have hh2 := holds_built w1 w1.heap.size rfl [(.slice a1 0 c1, tA)] 42 (fun p hp => by obtain rfl : p = (.slice a1 0 c1, tA) := by simpa using hp
                                                                                        exact h1') 1 rfl #[.slice a1 0 c1, .int .i64 0] rfl
  have b2 := b1.alloc (.cells #[.slice a1 0 c1, .int .i64 0] 42)
  have B2 : Below N w (w1.alloc (.cells #[.slice a1 0 c1, .int .i64 0] 42)) := B1.alloc (by omega) _
  have l2 : N < (w1.alloc (.cells #[.slice a1 0 c1, .int .i64 0] 42)).heap.size := b2.lt
  go_wp2_with fail
  refine (kOf_calls 0 [tA] okT _ _ hh2 (by decide +kernel)).mono ?_
  rintro e w2 ⟨v2, rfl, h2, hb2⟩
  obtain ⟨a2, c2, rfl, _⟩ := h2.shape
  have h2' := h2.t
  clear h2
  have b3 := b2.below hb2 b2.lt
  have B3 : Below N w w2 := B2.trans (hb2.mono (by omega))
  clear hb2 B2 b2 hh2 b1 B1 l2 h1'
  obtain ⟨X, hX⟩ : ∃ X, w2.heap.size = X := ⟨_, rfl⟩
  have lX : N < X := by rw [← hX]; exact b3.lt
  obtain ⟨W3, hW3⟩ : ∃ W3, w2.alloc (.cells #[.string ⟨#[122]⟩, .slice none 0 0, .int .i64 0, .string ⟨#[115]⟩, .slice a2 1 c2, .int .i64 0] 60) = W3 := ⟨_, rfl⟩
  have bX : Blk W3 X 60 #[.string sZ, .slice none 0 0, .int .i64 0, .string sS, .slice a2 1 c2, .int .i64 0] := by rw [← hW3]; exact Blk.new' _ X 60 _ hX
  have b4 : Blk W3 N 9 #[.string sNat] := by rw [← hW3]; exact b3.alloc _
  have h4 : Holds W3 okT [tA] (.slice a2 1 c2) := by rw [← hW3]; exact h2'.alloc _
  have B4 : Below N w W3 := by rw [← hW3]; exact B3.alloc (by omega) _
  have hC : HoldsC W3 okT csK (.slice (some ⟨X, 0, none⟩) 2 2) := ⟨some ⟨X, 0, none⟩, 2, rfl, Nat.le_refl _, (fun h => by cases h), fun i c hi => by
    have hl := (List.getElem?_eq_some_iff.1 hi).1
    have hl2 : i < 2 := hl
    obtain rfl | rfl : i = 0 ∨ i = 1 := by omega
    · obtain rfl : (⟨sZ, tA⟩ : Cn) = c := Option.some.inj hi
      exact ⟨X, 0, _, rfl, trivial, bX.cell 0, bX.cell 1, bX.cell 2, Holds.nil _ _ _ _ (fun _ => rfl)⟩
    · obtain rfl : (⟨sS, tAA⟩ : Cn) = c := Option.some.inj hi
      exact ⟨X, 0, _, rfl, trivial, bX.cell 3, bX.cell 4, bX.cell 5, h4⟩⟩
  have hNew := New_calls [sNat] csK okT _ _ W3 (holdsS_one W3 N sNat b4) hC fitN fitK (by decide +kernel)
  rw [chkK] at hNew
  have lW3 : N < W3.heap.size := b4.lt
  clear hC h4 b4 bX h2' b3 B3
  go_wp2_with fail
  refine hNew.mono ?_
  rintro e w4 ⟨p, rfl, _, hp, hb4⟩
  obtain ⟨B, rfl, hB, hI⟩ := hp trivial
  have B5 : Below N w w4 := B4.trans (hb4.mono (by omega))
  have hT := rightT chkK fitN fitK
  clear hp hb4 B4 hNew hW3 hX hW
  have hCo := Const_calls [sNat] csK hT sS (by decide +kernel) B w4 hI
  go_wp2_with fail
  refine hCo.mono ?_
  rintro e w5 ⟨c, er, rfl, hc, _, hI5, hO5⟩
  obtain ⟨rfl, rfl⟩ := hc 1 kS
  have B6 : Below N w w5 := B5.trans (hO5.below (by have := hI.lt; omega) (fun k hk => by simp at hk; omega))
  clear hCo hc hI B5 hO5
  have hFr := Fresh_calls [sNat] csK hT sZ (by decide +kernel) wZ 1 (by decide) (fun j hj => by obtain rfl : j = 0 := by omega
                                                                                                exact inZ0) inZ1 B w5 hI5
  rw [candZ] at hFr
  rw [if_neg (by decide +kernel)] at hFr
  go_wp2_with fail
  refine hFr.mono ?_
  rintro e w6 ⟨rfl, hI6, hO6⟩
  have B7 : Below N w w6 := B6.trans (hO6.below (by have := hI5.lt; omega) (fun k hk => by simp at hk; omega))
  clear hFr hO6 B6
  have l6 := B7.size
  obtain ⟨Y, hY⟩ : ∃ Y, w6.heap.size = Y := ⟨_, rfl⟩
  obtain ⟨W8, hW8⟩ : ∃ W8, (w6.alloc (.cells #[.string ⟨#[110, 97, 116]⟩] 9)).alloc (.cells #[.string ⟨#[110, 97, 116]⟩, .slice none 0 0, .int .i64 0] 60) = W8 := ⟨_, rfl⟩
  have c0 : Blk W8 Y 9 #[.string sNat] := by rw [← hW8]; exact (Blk.new' _ Y 9 _ hY).alloc _
  have c1 : Blk W8 (Y + 1) 60 #[.string sNat, .slice none 0 0, .int .i64 0] := by rw [← hW8]; exact Blk.new' _ (Y + 1) 60 _ (by simp [hY])
  have B8 : Below N w W8 := by rw [← hW8]; exact (B7.alloc (by omega) _).alloc (by simp; omega) _
  have hC8 : HoldsC W8 okT [⟨sNat, tA⟩] (.slice (some ⟨Y + 1, 0, none⟩) 1 1) := ⟨some ⟨Y + 1, 0, none⟩, 1, rfl, Nat.le_refl _, (fun h => by cases h), fun i c hi => by
    have hl := (List.getElem?_eq_some_iff.1 hi).1
    have hl2 : i < 1 := hl
    obtain rfl : i = 0 := by omega
    obtain rfl : (⟨sNat, tA⟩ : Cn) = c := Option.some.inj hi
    exact ⟨Y + 1, 0, _, rfl, trivial, c1.cell 0, c1.cell 1, c1.cell 2, Holds.nil _ _ _ _ (fun _ => rfl)⟩⟩
  have hCk := Check_calls [sNat] [⟨sNat, tA⟩] okT _ _ W8 (holdsS_one W8 Y sNat c0) hC8 fitN fitN2 (by decide +kernel)
  rw [chkN] at hCk
  have l8 := B8.size
  clear c0 c1 hC8
  go_wp2_with fail
  refine hCk.mono ?_
  rintro e w9 ⟨rfl, hb9⟩
  have B9 : Below N w w9 := B8.trans (hb9.mono (by omega))
  clear hb9 hCk hW8 hY
  go_wp2
  go_ret
  exact ⟨rfl, B9⟩

end Go.Proofs.YtdihplmlbfggjaaGreatDoor

