/-
  LxWords: several texts in one file.
-/
import Derived.Test.YtdihplmlbfggjaaGreatDoorLxSplitA
import Derived.Deep.RegionHeld3
import Derived.Test.YtdihplmlbfggjaaGreatDoorLxRefSplit
import Derived.Lib.QuietBelow
import Derived.Shelf.RegionOpenPlain
/-
  The contract of the laws' 'same' (slices of the same tokens) and of Split of a text that is too long.
-/
namespace Go.Proofs.YtdihplmlbfggjaaGreatDoor.Lx
open Go Go.RowKit Go.Shelf Plain Lex

theorem keep3 {w w' : World} {g i j l : Nat} {x y z : Value} (hb : Below w.drew.heap.size w.drew w') (hg : g < w.heap.size) (h : w.cell? ⟨g, i, none⟩ = some x ∧ w.cell? ⟨g, j, none⟩ = some y ∧ w.cell? ⟨g, l, none⟩ = some z) :
    w'.cell? ⟨g, i, none⟩ = some x ∧ w'.cell? ⟨g, j, none⟩ = some y ∧ w'.cell? ⟨g, l, none⟩ = some z :=
  ⟨(hb.cell (p := ⟨g, i, none⟩) hg).trans h.1, (hb.cell (p := ⟨g, j, none⟩) hg).trans h.2.1, (hb.cell (p := ⟨g, l, none⟩) hg).trans h.2.2⟩

end Go.Proofs.YtdihplmlbfggjaaGreatDoor.Lx

/-
  The contract of the laws' 'known': the chapter's examples hold.
-/
namespace Go.Proofs.YtdihplmlbfggjaaGreatDoor.Lx
open Go Go.RowKit Go.Shelf Plain Lex

def exA : ByteArray := ⟨#[102, 32, 120, 32, 45, 62, 32, 49, 50, 32, 35, 32, 121]⟩
def exB : ByteArray := ⟨#[97, 45, 98]⟩

theorem exA_run : run exA false 0 = ([⟨1, exA.extract 0 1, 0⟩, ⟨1, exA.extract 2 3, 2⟩, ⟨3, exA.extract 4 6, 4⟩, ⟨2, exA.extract 7 9, 7⟩], none) := by
  have a0 : aft exA false 0 = 0 := by decide +kernel
  have f0 : fr exA 0 = (1, 1) := by decide +kernel
  have a1 : aft exA false 1 = 2 := by decide +kernel
  have f1 : fr exA 2 = (1, 1) := by decide +kernel
  have a2 : aft exA false 3 = 4 := by decide +kernel
  have f2 : fr exA 4 = (3, 2) := by decide +kernel
  have a3 : aft exA false 6 = 7 := by decide +kernel
  have f3 : fr exA 7 = (2, 2) := by decide +kernel
  have a4 : aft exA false 9 = 13 := by decide +kernel
  have f4 : fr exA 13 = (4, 0) := by decide +kernel
  rw [run_tok exA false 0 (by decide) (by rw [a0, f0]; rfl) (by rw [a0, f0]; decide), a0, f0]
  simp only [Nat.zero_add]
  rw [run_tok exA false 1 (by decide) (by rw [a1, f1]; rfl) (by rw [a1, f1]; decide), a1, f1]
  simp only [Nat.reduceAdd]
  rw [run_tok exA false 3 (by decide) (by rw [a2, f2]; rfl) (by rw [a2, f2]; decide), a2, f2]
  simp only [Nat.reduceAdd]
  rw [run_tok exA false 6 (by decide) (by rw [a3, f3]; rfl) (by rw [a3, f3]; decide), a3, f3]
  simp only [Nat.reduceAdd]
  rw [run_end exA false 9 (by decide) (by rw [a4, f4])]
  simp only [tokAt, f0, f1, f2, f3]

theorem exB_run : run exB false 0 = ([⟨1, exB.extract 0 1, 0⟩], some ⟨3, 1, ⟨#[45]⟩⟩) := by
  have a0 : aft exB false 0 = 0 := by decide +kernel
  have f0 : fr exB 0 = (1, 1) := by decide +kernel
  have a1 : aft exB false 1 = 1 := by decide +kernel
  have f1 : fr exB 1 = (0, 1) := by decide +kernel
  rw [run_tok exB false 0 (by decide) (by rw [a0, f0]; rfl) (by rw [a0, f0]; decide), a0, f0]
  simp only [Nat.zero_add]
  rw [run_bad exB false 1 (by decide) (by rw [a1, f1]; decide), a1]
  simp only [tokAt, badAt, f0, f1]
  have hw : badWord 0 (exB.extract 1 (1 + 1)) = ⟨#[45]⟩ := by decide +kernel
  rw [hw]
  rfl

theorem exB_mark : markAt exB 1 = (1, 2) := by decide +kernel

end Go.Proofs.YtdihplmlbfggjaaGreatDoor.Lx

/-
  The walk of the law LexSplits: whatever the text, it answers true.
-/
namespace Go.Proofs.YtdihplmlbfggjaaGreatDoor.Lx
open Go Go.RowKit Go.Shelf Go.Sort Plain Lex

theorem outF_shape (s : ByteArray) (r : Option Bad) : ∃ (c l k : Int) (wd : ByteArray), outF s r = #[.int .i64 c, .int .i64 l, .int .i64 k, .string wd] := by
  cases r with
  | none => exact ⟨0, 0, 0, ⟨#[]⟩, rfl⟩
  | some b => exact ⟨_, _, _, _, rfl⟩

/-- There are no more tokens than bytes. -/
theorem run_len (s : ByteArray) : ∀ (n k : Nat) (rem : Bool), s.size - k ≤ n → k ≤ s.size → (run s rem k).1.length ≤ s.size - k := by
  intro n
  induction n with
  | zero =>
    intro k rem h1 h2
    obtain rfl : k = s.size := by omega
    rw [run_last]; simp
  | succ n ih =>
    intro k rem h1 h2
    obtain ⟨g1, g2⟩ := aft_le s rem k h2
    obtain ⟨f1, f2, _, _⟩ := fr_at s _ g2
    rw [run_eq s rem k h2]
    split
    · simp
    · split
      · simp
      · rename_i h4
        have := f2 h4
        have := ih (aft s rem k + (fr s (aft s rem k)).2) false (by omega) f1
        simp only [List.length_cons]
        omega
theorem outT_len (s : ByteArray) : (outT (run s false 0)).length ≤ s.size := by
  have := run_len s s.size 0 false (by omega) (Nat.zero_le _)
  unfold outT
  split
  · omega
  · simp

/-- Two regions' walks end so: what both Splits tell is the same. -/
def cut15 (s : ByteArray) : ByteArray := s.extract 0 (min (s.size : Int) 1500).toNat
theorem cut15_size (s : ByteArray) : (cut15 s).size ≤ 1500 := by
  unfold cut15; rw [ByteArray.size_extract]; omega

end Go.Proofs.YtdihplmlbfggjaaGreatDoor.Lx

/-
  Which texts are just one token: the plain mathematics, and the contracts of lex.isJust, IsWord and of the document's Is.
-/
namespace Go.Proofs.YtdihplmlbfggjaaGreatDoor.Lx
open Go Go.RowKit Go.Shelf Plain Lex

/-- Is the text one token of that kind, and nothing else? -/
def justB (s : ByteArray) (kd : Nat) : Bool := decide ((front s.data.toList).1 = kd) && decide ((front s.data.toList).2 = s.size) && decide (check (front s.data.toList).1 (front s.data.toList).2 = 0)

theorem letter_gap (b : UInt8) : letterB b = true → gapL.contains b = false := all_bytes (fun b => letterB b = true → gapL.contains b = false) (by decide +kernel) b
theorem digit_gap (b : UInt8) : digitB b = true → gapL.contains b = false := all_bytes (fun b => digitB b = true → gapL.contains b = false) (by decide +kernel) b

theorem front_kind (b : UInt8) (r : List UInt8) (h : (front (b :: r)).1 = 1 ∨ (front (b :: r)).1 = 2) : letterB b = true ∨ digitB b = true := by
  unfold front at h
  simp only at h
  by_cases h1 : letterB b = true
  · exact .inl h1
  · rw [if_neg h1] at h
    by_cases h2 : digitB b = true
    · exact .inr h2
    · rw [if_neg h2] at h
      exfalso
      by_cases h3 : (b :: r).take 2 = [45, 62]
      · rw [if_pos h3] at h; simp at h
      · rw [if_neg h3] at h
        by_cases h4 : signB b = true
        · rw [if_pos h4] at h; simp at h
        · rw [if_neg h4] at h; simp at h

theorem just_iff (s : ByteArray) (kd : Nat) (hk : kd = 1 ∨ kd = 2) :
    justB s kd = true ↔ (run s false 0).2 = none ∧ ∃ t, (run s false 0).1 = [t] ∧ t.kind = kd ∧ t.text = s := by
  have h0 : fr s 0 = front s.data.toList := by unfold fr; rw [List.drop_zero]
  unfold justB
  simp only [Bool.and_eq_true, decide_eq_true_eq]
  constructor
  · rintro ⟨⟨e1, e2⟩, e3⟩
    have hpos : 0 < s.size := by
      rcases Nat.eq_zero_or_pos s.size with h | h
      · rw [empty_of s h] at e1
        have : (front (⟨#[]⟩ : ByteArray).data.toList).1 = 4 := rfl
        omega
      · exact h
    have hd := drop_cons s 0 hpos
    rw [List.drop_zero] at hd
    have hg : gapL.contains s[0] = false := by
      rcases front_kind s[0] (s.data.toList.drop (0 + 1)) (by rw [← hd, e1]; exact hk) with h | h
      · exact letter_gap _ h
      · exact digit_gap _ h
    have ha := aft_here s 0 hpos hg
    have hr := run_tok s false 0 (Nat.zero_le _) (by rw [ha, h0]; exact e3) (by rw [ha, h0, e1]; omega)
    rw [ha, h0, e2, Nat.zero_add, run_last] at hr
    rw [hr]
    refine ⟨rfl, _, rfl, ?_, ?_⟩
    · simp only [tokAt, h0, e1]
    · simp only [tokAt, h0, e2, Nat.zero_add]
      exact ByteArray.extract_zero_size
  · rintro ⟨e1, t, e2, e3, e4⟩
    obtain ⟨h1, h2⟩ := aft_le s false 0 (Nat.zero_le _)
    obtain ⟨f1, f2, _, _⟩ := fr_at s _ h2
    rw [run_eq s false 0 (Nat.zero_le _)] at e1 e2
    split at e2
    · simp at e2
    · rename_i hc
      rw [if_neg hc] at e1
      split at e2
      · simp at e2
      · rename_i h4
        simp only [List.cons.injEq] at e2
        have e5 : (tokAt s (aft s false 0)).text.size = s.size := by rw [e2.1, e4]
        have e6 : (tokAt s (aft s false 0)).kind = kd := by rw [e2.1, e3]
        simp only [tokAt] at e5 e6
        rw [ByteArray.size_extract] at e5
        have ha : aft s false 0 = 0 := by have := f2 h4; omega
        rw [ha, h0] at e5 e6 f1
        rw [ha, h0] at hc
        have hc' : check (front s.data.toList).1 (front s.data.toList).2 = 0 := by simpa using hc
        exact ⟨⟨e6, by omega⟩, hc'⟩

theorem just_not (s : ByteArray) (a b : Nat) (h : justB s a = true) (hne : a ≠ b) : justB s b = false := by
  unfold justB at *
  simp only [Bool.and_eq_true, decide_eq_true_eq] at h
  have : decide ((front s.data.toList).1 = b) = false := by simp; omega
  simp [this]

theorem run_code (s : ByteArray) : ∀ (n k : Nat) (rem : Bool) (b : Bad), s.size - k ≤ n → k ≤ s.size → (run s rem k).2 = some b → b.code ≠ 0 := by
  intro n
  induction n with
  | zero =>
    intro k rem b h1 h2 h
    obtain rfl : k = s.size := by omega
    rw [run_last] at h; simp at h
  | succ n ih =>
    intro k rem b h1 h2 h
    obtain ⟨g1, g2⟩ := aft_le s rem k h2
    obtain ⟨f1, f2, _, _⟩ := fr_at s _ g2
    rw [run_eq s rem k h2] at h
    split at h
    · rename_i hc
      simp only [Option.some.injEq] at h
      rw [← h]; exact hc
    · split at h
      · simp at h
      · rename_i h4
        have := f2 h4
        exact ih _ false b (by omega) f1 h

set_option maxHeartbeats 800000 in
theorem isJust_calls (s : ByteArray) (hs : s.size ≤ 281474976710656) (kd : Nat) (w : World) : Calls Tryz.prog 46 #[.string s, .int .i64 kd] w fun e w' => e = .returned (.bool (justB s kd)) ∧ w = w' := by
  have c0 := front_calls s hs
  have hj : justB s kd = (decide ((front s.data.toList).1 = kd) && decide ((front s.data.toList).2 = s.size) && decide (check (front s.data.toList).1 (front s.data.toList).2 = 0)) := rfl
  generalize front s.data.toList = f at *
  obtain ⟨k, n⟩ := f
  simp only at c0 hj
  have c1 := check_calls k n
  generalize check k n = c at *
  obtain ⟨d0, hd0⟩ : ∃ d, ((k : Int) == (kd : Int)) = d := ⟨_, rfl⟩
  obtain ⟨d1, hd1⟩ : ∃ d, ((n : Int) == (s.size : Int)) = d := ⟨_, rfl⟩
  obtain ⟨d2, hd2⟩ : ∃ d, ((c : Int) == 0) = d := ⟨_, rfl⟩
  have e0 : decide (k = kd) = d0 := by rw [← hd0]; rw [Bool.eq_iff_iff]; simp; omega
  have e1 : decide (n = s.size) = d1 := by rw [← hd1]; rw [Bool.eq_iff_iff]; simp; omega
  have e2 : decide (c = 0) = d2 := by rw [← hd2]; rw [Bool.eq_iff_iff]; simp
  rw [e0, e1, e2] at hj
  have HJ : Hid _ := hj
  have C0 : Hid _ := c0
  have C1 : Hid _ := c1
  have hd0' : (k == kd) = d0 := by rw [← e0]; rfl
  have hd1' : (n == s.size) = d1 := by rw [← e1]; rfl
  have hd2' : (c == 0) = d2 := by rw [← e2]; rfl
  clear c0 c1 hj e0 e1 e2
  cases d0 <;> cases d1 <;> cases d2
  all_goals
    go_enter Tryz.func46, Tryz.ntmps46
    go_wp2_with (first | (go_at_call 59; refine (C0.out _).mono ?_; rintro e w' ⟨rfl, rfl⟩) | (go_at_call 60; refine (C1.out _).mono ?_; rintro e w' ⟨rfl, rfl⟩))
    go_ret
    exact ⟨by rw [HJ.out]; rfl, rfl⟩

theorem IsWord_calls (s : ByteArray) (hs : s.size ≤ 281474976710656) (w : World) : Calls Tryz.prog 36 #[.string s] w fun e w' => e = .returned (.bool (justB s 1)) ∧ w = w' := by
  have HC : Hid _ := isJust_calls s hs 1
  go_enter Tryz.func36, Tryz.ntmps36
  go_wp2_with (go_at_call 46; refine (HC.out _).mono ?_; rintro e w' ⟨rfl, rfl⟩)
  go_ret
  exact ⟨rfl, rfl⟩

end Go.Proofs.YtdihplmlbfggjaaGreatDoor.Lx

/-
  The contracts of the document's Is, of lex.Value and of the document's Value.
-/
namespace Go.Proofs.YtdihplmlbfggjaaGreatDoor.Lx
open Go Go.RowKit Go.Shelf Plain Lex

theorem str_eq (a b : ByteArray) : (a.toList == b.toList) = true ↔ a = b := by
  rw [beq_iff_eq, Lib.toList_data, Lib.toList_data]
  constructor
  · intro h; exact ByteArray.ext (Array.toList_inj.1 h)
  · intro h; rw [h]

set_option maxRecDepth 100000 in
set_option maxHeartbeats 1600000 in
theorem Is_calls (s : ByteArray) (hs : s.size ≤ 20000) (kd : Nat) (hk : kd = 1 ∨ kd = 2) (w : World) : Calls Tryz.prog 26 #[.string s, .int .i64 kd] w fun e w' => e = .returned (.bool (justB s kd)) ∧ Below w.heap.size w w' := by
  obtain ⟨N, hN⟩ : ∃ N, w.heap.size = N := ⟨_, rfl⟩
  have HN : Hid (w.heap.size = N) := hN
  have hj := just_iff s kd hk
  have cR := refSplit_calls s hs
  have hco := run_code s s.size 0 false
  generalize run s false 0 = r at *
  obtain ⟨ts, o⟩ := r
  clear hN
  cases o with
  | some b =>
    have hb := hco b (by omega) (Nat.zero_le _) rfl
    have HV : Hid (justB s kd = false) := by
      show _ = _
      rw [← Bool.not_eq_true, hj]; simp
    have hcb : ((b.code : Int) == 0) = false := by simp; omega
    generalize justB s kd = jb at *
    clear hj hco hk
    have CR : Hid _ := cR
    clear cR
    go_enter Tryz.func26, Tryz.ntmps26
    go_wp2_with fail
    refine (CR.out _).mono ?_
    rintro e w1 ⟨v, rfl, hrow, hb1⟩
    rw [HN.out] at hb1
    simp only [outF]
    obtain ⟨M, hM⟩ : ∃ M, w1.heap.size = M := ⟨_, rfl⟩
    have hN1 : N ≤ w1.heap.size := by have := hb1.size; rw [HN.out] at this; exact this
    go_wp2
    go_ret
    exact ⟨by rw [HV.out]; rfl, by rw [HN.out]; exact hb1.alloc (by omega) _⟩
  | none =>
    have hj' : justB s kd = true ↔ ∃ t, ts = [t] ∧ t.kind = kd ∧ t.text = s := by rw [hj]; simp
    clear hj hco
    by_cases h1 : ts.length = 1
    · obtain ⟨t, rfl⟩ : ∃ t, ts = [t] := List.length_eq_one_iff.1 h1
      obtain ⟨d0, hd0⟩ : ∃ d, ((t.kind : Int) == (kd : Int)) = d := ⟨_, rfl⟩
      have e0 : t.kind = kd ↔ d0 = true := by rw [← hd0]; simp; omega
      have HV : Hid (justB s kd = (d0 && (t.text.toList == s.toList))) := by
        show _ = _
        rw [Bool.eq_iff_iff, hj', Bool.and_eq_true, str_eq, ← e0]
        simp
      have CR : Hid _ := cR
      generalize justB s kd = jb at *
      clear cR e0 hj'
      go_enter Tryz.func26, Tryz.ntmps26
      go_wp2_with fail
      refine (CR.out _).mono ?_
      rintro e w1 ⟨v, rfl, hrow, hb1⟩
      rw [HN.out] at hb1
      simp only [outF]
      obtain ⟨a, cap, rfl, hcap, hat⟩ := hrow.shape
      obtain ⟨g, rfl, _, hg, q0, q1, q2⟩ := hat 0 t rfl
      simp only [outT, List.length_singleton, Nat.zero_mul, Nat.zero_add] at hcap q0 q1 q2 ⊢
      obtain ⟨M, hM⟩ : ∃ M, w1.heap.size = M := ⟨_, rfl⟩
      have hN1 : N ≤ w1.heap.size := by have := hb1.size; rw [HN.out] at this; exact this
      have p0 : ∀ o, (w1.alloc o).cell? ⟨g, 0, none⟩ = some (.int .i64 t.kind) := fun o => (World.cell?_of_block (w := w1) (Below.heap_alloc w1 o g hg)).trans q0
      have p1 : ∀ o, (w1.alloc o).cell? ⟨g, 1, none⟩ = some (.string t.text) := fun o => (World.cell?_of_block (w := w1) (Below.heap_alloc w1 o g hg)).trans q1
      clear hat hrow q0 q1 q2
      cases d0 with
      | false =>
        go_wp2
        go_ret
        exact ⟨by rw [HV.out]; rfl, by rw [HN.out]; exact hb1.alloc (by omega) _⟩
      | true =>
        go_wp2
        go_ret
        exact ⟨by rw [HV.out]; rfl, by rw [HN.out]; exact hb1.alloc (by omega) _⟩
    · have HV : Hid (justB s kd = false) := by
        show _ = _
        rw [← Bool.not_eq_true, hj']
        rintro ⟨t, rfl, _⟩
        exact h1 rfl
      have hlb : ((ts.length : Int) == 1) = false := by simp; omega
      have CR : Hid _ := cR
      generalize justB s kd = jb at *
      clear cR hj'
      go_enter Tryz.func26, Tryz.ntmps26
      go_wp2_with fail
      refine (CR.out _).mono ?_
      rintro e w1 ⟨v, rfl, hrow, hb1⟩
      rw [HN.out] at hb1
      simp only [outF]
      obtain ⟨a, cap, rfl, hcap, hat⟩ := hrow.shape
      simp only [outT] at hcap ⊢
      obtain ⟨M, hM⟩ : ∃ M, w1.heap.size = M := ⟨_, rfl⟩
      have hN1 : N ≤ w1.heap.size := by have := hb1.size; rw [HN.out] at this; exact this
      clear hat hrow
      go_wp2
      go_ret
      exact ⟨by rw [HV.out]; rfl, by rw [HN.out]; exact hb1.alloc (by omega) _⟩

/-- A number's value. -/
def numV (l : List UInt8) : Nat := l.foldl (fun n b => 10 * n + (b.toNat - 48)) 0
theorem numV_snoc (l : List UInt8) (b : UInt8) : numV (l ++ [b]) = 10 * numV l + (b.toNat - 48) := by simp [numV]
theorem numV_le (l : List UInt8) (h : ∀ b ∈ l, b.toNat ≤ 57) : numV l < 10 ^ l.length := by
  have : ∀ (l : List UInt8) (n m : Nat), (∀ b ∈ l, b.toNat ≤ 57) → n < m → l.foldl (fun n b => 10 * n + (b.toNat - 48)) n < m * 10 ^ l.length := by
    intro l
    induction l with
    | nil => intro n m _ h; simpa using h
    | cons b l ih =>
      intro n m hl hn
      rw [List.foldl_cons]
      have hb := hl b (by simp)
      have := ih (10 * n + (b.toNat - 48)) (10 * m) (fun x hx => hl x (by simp [hx])) (by omega)
      rw [List.length_cons, Nat.pow_succ]
      calc _ < 10 * m * 10 ^ l.length := this
        _ = m * (10 ^ l.length * 10) := by rw [Nat.mul_comm 10 m, Nat.mul_assoc, Nat.mul_comm 10]
  have h2 := this l 0 1 h (by omega)
  simpa [numV] using h2

theorem mem_tw {p : UInt8 → Bool} {l : List UInt8} {b : UInt8} (h : b ∈ l.takeWhile p) : p b = true := by
  induction l with
  | nil => simp at h
  | cons x l ih =>
    rw [List.takeWhile_cons] at h
    split at h
    · rename_i hx
      rcases List.mem_cons.1 h with h | h
      · rw [h]; exact hx
      · exact ih h
    · simp at h

/-- A text that is just a number: at most nine digits. -/
theorem just_num (s : ByteArray) (h : justB s 2 = true) : s.size ≤ 9 ∧ ∀ i (hi : i < s.size), 48 ≤ s[i].toNat ∧ s[i].toNat ≤ 57 := by
  unfold justB at h
  simp only [Bool.and_eq_true, decide_eq_true_eq] at h
  obtain ⟨⟨e1, e2⟩, e3⟩ := h
  rw [e1, e2] at e3
  refine ⟨by simp [check] at e3; omega, ?_⟩
  have hpos : 0 < s.size := by
    rcases Nat.eq_zero_or_pos s.size with h | h
    · rw [empty_of s h] at e1
      have : (front (⟨#[]⟩ : ByteArray).data.toList).1 = 4 := rfl
      omega
    · exact h
  have hd := drop_cons s 0 hpos
  rw [List.drop_zero] at hd
  rw [hd] at e1 e2
  unfold front at e1 e2
  simp only at e1 e2
  by_cases h1 : letterB s[0] = true
  · rw [if_pos h1] at e1; simp at e1
  · rw [if_neg h1] at e1 e2
    by_cases h2 : digitB s[0] = true
    · rw [if_pos h2, ← hd] at e2
      simp only at e2
      have hall : s.data.toList.takeWhile digitB = s.data.toList := by
        refine (List.takeWhile_prefix digitB).eq_of_length ?_
        rw [e2]; simp
      intro i hi
      have hm : s[i] ∈ s.data.toList.takeWhile digitB := by
        rw [hall]
        exact List.getElem_mem (l := s.data.toList) (n := i) (by simpa using hi)
      have := mem_tw hm
      simpa [digitB] using this
    · rw [if_neg h2] at e1
      exfalso
      split at e1
      · simp at e1
      · split at e1 <;> simp at e1

theorem take_snoc' (s : ByteArray) (k : Nat) (h : k < s.size) : s.data.toList.take (k + 1) = s.data.toList.take k ++ [s[k]] := by
  rw [List.take_succ_eq_append_getElem (by simpa using h)]; rfl
theorem num_step (s : ByteArray) (hs : s.size ≤ 9) (hd : ∀ i (hi : i < s.size), 48 ≤ s[i].toNat ∧ s[i].toNat ≤ 57) (k : Nat) (hk : k < s.size) :
    numV (s.data.toList.take (k + 1)) = 10 * numV (s.data.toList.take k) + (s[k].toNat - 48) ∧ numV (s.data.toList.take k) < 1000000000 := by
  refine ⟨by rw [take_snoc' s k hk, numV_snoc], ?_⟩
  have h1 := numV_le (s.data.toList.take k) (fun b hb => by
    obtain ⟨i, hi, rfl⟩ := List.getElem_of_mem hb
    have hi' : i < s.size := by simp at hi; omega
    have := (hd i hi').2
    rw [List.getElem_take]
    exact this)
  have h2 : (s.data.toList.take k).length ≤ 9 := by simp; omega
  have h3 : 10 ^ (s.data.toList.take k).length ≤ 10 ^ 9 := Nat.pow_le_pow_right (by omega) h2
  omega

/-- What lex.Value tells. -/
def valV (s : ByteArray) (kd : Int) : Array Value := if kd = 2 ∧ justB s 2 = true then #[.int .i64 (numV s.data.toList : Int), .int .i64 0] else #[.int .i64 0, .int .i64 1]

end Go.Proofs.YtdihplmlbfggjaaGreatDoor.Lx

/-
  The document's Is, of any text: a text that is too long is no word.
-/
namespace Go.Proofs.YtdihplmlbfggjaaGreatDoor.Lx
open Go Go.RowKit Go.Shelf Plain Lex

theorem just_short (s : ByteArray) (h : justB s 1 = true) : s.size ≤ 30 := by
  unfold justB at h
  simp only [Bool.and_eq_true, decide_eq_true_eq] at h
  obtain ⟨⟨h1, h2⟩, h3⟩ := h
  rw [h1, h2] at h3
  unfold check at h3
  rw [if_neg (by omega)] at h3
  split at h3
  · cases h3
  · omega

set_option maxRecDepth 100000 in
theorem refSplit_long (s : ByteArray) (hs : 20000 < s.size) (h2 : s.size ≤ 281474976710656) (w : World) :
    Calls Tryz.prog 38 #[.string s] w fun e w' => e = .returned (.tuple #[.slice none 0 0, .agg #[.int .i64 2, .int .i64 1, .int .i64 1, .string ⟨#[]⟩]]) ∧ Below w.heap.size w w' := by
  obtain ⟨N, hN⟩ : ∃ N, w.heap.size = N := ⟨_, rfl⟩
  have hsz : decide ((20000 : Int) < (s.size : Int)) = true := by simp; omega
  have b := Blk.new' w N 99 #[.int .i64 2, .int .i64 1, .int .i64 1, .string ⟨#[]⟩] hN
  have B1 := (Below.refl N w).alloc (by omega) (.cells #[.int .i64 2, .int .i64 1, .int .i64 1, .string ⟨#[]⟩] 99)
  rw [hN]
  go_enter Tryz.func38, Tryz.ntmps38
  go_wp2
  have x0 := b.cell 0
  have x1 := b.cell 1
  have x2 := b.cell 2
  have x3 := b.cell 3
  exact bodyPost_ret (v := .tuple #[.slice none 0 0, .agg #[.int .i64 2, .int .i64 1, .int .i64 1, .string ⟨#[]⟩]]) (by simp [results, Tryz.results38, go_sem, x0, x1, x2, x3]) rfl ⟨rfl, B1⟩

set_option maxRecDepth 100000 in
theorem IsWord_all (s : ByteArray) (h2 : s.size ≤ 281474976710656) (w : World) : Calls Tryz.prog 26 #[.string s, .int .i64 1] w fun e w' => e = .returned (.bool (justB s 1)) ∧ Below w.heap.size w w' := by
  by_cases hs : s.size ≤ 20000
  · exact Is_calls s hs 1 (.inl rfl) w
  · have HV : Hid (justB s 1 = false) := by
      show _ = _
      cases h : justB s 1 with
      | false => rfl
      | true => exact absurd (just_short s h) (by omega)
    have CR := refSplit_long s (by omega) h2
    generalize justB s 1 = jb at *
    obtain ⟨N, hN⟩ : ∃ N, w.heap.size = N := ⟨_, rfl⟩
    rw [hN]
    go_enter Tryz.func26, Tryz.ntmps26
    go_wp2_with fail
    refine (CR _).mono ?_
    rintro e w1 ⟨rfl, hb1⟩
    rw [hN] at hb1
    have hN1 : N ≤ w1.heap.size := by have := hb1.size; omega
    go_wp2
    go_ret
    exact ⟨by rw [HV.out]; rfl, hb1.alloc (by omega) _⟩

end Go.Proofs.YtdihplmlbfggjaaGreatDoor.Lx

