/-
  The plain mathematics of P3.3: tokens of a text, printed, are split into tokens of the same kinds and texts.
-/
import Derived.Test.YtainjagbcbjnbaaBuild
import Derived.Test.YtainjagbcbjnbaaJust
namespace Go.Proofs.Ytainjagbcbjnbaa
open Go Go.RowKit Go.Shelf Plain Lex

/-- What follows a token that is printed: nothing, or a blank. -/
def Ends (rest : List UInt8) : Prop := rest = [] ∨ ∃ r, rest = 32 :: r

theorem tw_ends (p : UInt8 → Bool) (hp : p 32 = false) (l rest : List UInt8) (h : Ends rest) : (l.takeWhile p ++ rest).takeWhile p = l.takeWhile p := by
  induction l with
  | nil =>
    rcases h with rfl | ⟨r, rfl⟩
    · rfl
    · simp [hp]
  | cons b l ih =>
    by_cases hb : p b = true
    · simp only [List.takeWhile_cons, hb, if_true, List.cons_append]
      rw [ih]
    · have hb' : p b = false := by simpa using hb
      simp only [List.takeWhile_cons, hb', Bool.false_eq_true, if_false, List.nil_append]
      rcases h with rfl | ⟨r, rfl⟩
      · rfl
      · simp [hp]

theorem take_tw (p : UInt8 → Bool) (l : List UInt8) : l.take (l.takeWhile p).length = l.takeWhile p := (List.prefix_iff_eq_take.1 (List.takeWhile_prefix p)).symm

theorem sign_facts (b : UInt8) : signB b = true → letterB b = false ∧ digitB b = false ∧ b ≠ 45 ∧ gapL.contains b = false :=
  all_bytes (fun b => signB b = true → letterB b = false ∧ digitB b = false ∧ b ≠ 45 ∧ gapL.contains b = false) (by decide +kernel) b

/-- What stands at the front stands there too when it is printed. -/
theorem front_ends (b : UInt8) (r rest : List UInt8) (h : Ends rest) (h0 : (front (b :: r)).1 ≠ 0) :
    front ((b :: r).take (front (b :: r)).2 ++ rest) = front (b :: r) ∧ gapL.contains b = false ∧ (b :: r).take (front (b :: r)).2 ≠ [] := by
  have hlen := front_len b r
  have hne : (b :: r).take (front (b :: r)).2 ≠ [] := by
    intro e
    have := congrArg List.length e
    simp only [List.length_take, List.length_nil] at this
    omega
  refine ⟨?_, ?_, hne⟩
  · by_cases h1 : letterB b = true
    · have e : front (b :: r) = (1, ((b :: r).takeWhile wordB).length) := by unfold front; simp only; rw [if_pos h1]
      rw [e]
      simp only
      rw [take_tw]
      have e2 : (b :: r).takeWhile wordB ++ rest = b :: (r.takeWhile wordB ++ rest) := by
        rw [List.takeWhile_cons, if_pos (letter_word b h1)]; rfl
      have e3 := tw_ends wordB (by decide) (b :: r) rest h
      rw [e2] at e3 ⊢
      unfold front
      simp only
      rw [if_pos h1, e3]
    · have h1' : letterB b = false := by simpa using h1
      by_cases h2 : digitB b = true
      · have e : front (b :: r) = (2, ((b :: r).takeWhile digitB).length) := by unfold front; simp only; rw [if_neg h1, if_pos h2]
        rw [e]
        simp only
        rw [take_tw]
        have e2 : (b :: r).takeWhile digitB ++ rest = b :: (r.takeWhile digitB ++ rest) := by
          rw [List.takeWhile_cons, if_pos h2]; rfl
        have e3 := tw_ends digitB (by decide) (b :: r) rest h
        rw [e2] at e3 ⊢
        unfold front
        simp only
        rw [if_neg h1, if_pos h2, e3]
      · by_cases h3 : (b :: r).take 2 = [45, 62]
        · have e : front (b :: r) = (3, 2) := by unfold front; simp only; rw [if_neg h1, if_neg h2, if_pos h3]
          rw [e]
          simp only
          rw [h3]
          rfl
        · by_cases h4 : signB b = true
          · have e : front (b :: r) = (3, 1) := by unfold front; simp only; rw [if_neg h1, if_neg h2, if_neg h3, if_pos h4]
            rw [e]
            simp only
            have e2 : (b :: r).take 1 ++ rest = b :: rest := by simp
            rw [e2]
            unfold front
            simp only
            rw [if_neg h1, if_neg h2, if_neg, if_pos h4]
            intro h5
            have := (sign_facts b h4).2.2.1
            cases rest with
            | nil => simp at h5
            | cons x y => simp at h5; exact this h5.1
          · exfalso
            apply h0
            unfold front
            simp only
            rw [if_neg h1, if_neg h2, if_neg h3, if_neg h4]
  · by_cases h1 : letterB b = true
    · exact letter_gap b h1
    · by_cases h2 : digitB b = true
      · exact digit_gap b h2
      · by_cases h4 : signB b = true
        · exact (sign_facts b h4).2.2.2
        · have h3 : (b :: r).take 2 = [45, 62] := Decidable.byContradiction fun h3 => h0 (by
            unfold front; simp only; rw [if_neg h1, if_neg h2, if_neg h3, if_neg h4])
          have : b = 45 := by
            cases r with
            | nil => simp at h3
            | cons x y => simp at h3; exact h3.1
          rw [this]; decide

/-- A token that a text has. -/
structure Good (s : ByteArray) (t : Tok) : Prop where
  front : ∀ rest, Ends rest → Lex.front (t.text.data.toList ++ rest) = (t.kind, t.text.size)
  ok : check t.kind t.text.size = 0
  kind : t.kind ≠ 4
  gap : ∃ b r, t.text.data.toList = b :: r ∧ gapL.contains b = false
  here : s.extract t.pos (t.pos + t.text.size) = t.text
  fits : t.pos + t.text.size ≤ s.size

theorem tok_good (s : ByteArray) (a : Nat) (ha : a ≤ s.size) (h : check (fr s a).1 (fr s a).2 = 0) (h4 : (fr s a).1 ≠ 4) : Good s (tokAt s a) := by
  obtain ⟨f1, f2, f3, _⟩ := fr_at s a ha
  obtain ⟨g1, g2⟩ := f2 h4
  have h0 : (fr s a).1 ≠ 0 := by
    intro e; rw [e] at h; simp [check] at h
  have hd := drop_cons s a g1
  have hsz : (s.extract a (a + (fr s a).2)).size = (fr s a).2 := by rw [ByteArray.size_extract]; omega
  have hl : (s.extract a (a + (fr s a).2)).data.toList = (s.data.toList.drop a).take (fr s a).2 := by
    rw [Lib.extract_data]; congr 1; omega
  have hfr : fr s a = front (s[a] :: s.data.toList.drop (a + 1)) := by unfold fr; rw [hd]
  have key := fun rest hr => front_ends s[a] (s.data.toList.drop (a + 1)) rest hr (by rw [← hfr]; exact h0)
  rw [← hfr, ← hd, ← hl] at key
  refine ⟨fun rest hr => ?_, ?_, h4, ?_, ?_, ?_⟩
  · simp only [tokAt]
    rw [(key rest hr).1, hsz]
  · simp only [tokAt]
    rw [hsz]; exact h
  · obtain ⟨_, k2, k3⟩ := key [] (.inl rfl)
    refine ⟨s[a], (s.data.toList.drop (a + 1)).take ((fr s a).2 - 1), ?_, k2⟩
    simp only [tokAt]
    rw [hl, hd]
    obtain ⟨m, hm⟩ : ∃ m, (fr s a).2 = m + 1 := ⟨(fr s a).2 - 1, by omega⟩
    rw [hm, List.take_succ_cons]
    rfl
  · simp only [tokAt]; rw [hsz]
  · simp only [tokAt]; rw [hsz]; exact f1

def sp (l : List Tok) : List UInt8 := l.flatMap (fun u => 32 :: u.text.data.toList)

theorem run_good (s : ByteArray) : ∀ (n k : Nat) (rem : Bool), s.size - k ≤ n → k ≤ s.size → (∀ t ∈ (run s rem k).1, Good s t) ∧ (sp (run s rem k).1).length ≤ 2 * (s.size - k) := by
  intro n
  induction n with
  | zero =>
    intro k rem h1 h2
    obtain rfl : k = s.size := by omega
    rw [run_last]; simp [sp]
  | succ n ih =>
    intro k rem h1 h2
    obtain ⟨g1, g2⟩ := aft_le s rem k h2
    obtain ⟨f1, f2, _, _⟩ := fr_at s _ g2
    rw [run_eq s rem k h2]
    split
    · simp [sp]
    · rename_i hc
      split
      · simp [sp]
      · rename_i h4
        have f3 := f2 h4
        have i1 := ih (aft s rem k + (fr s (aft s rem k)).2) false (by omega) f1
        have hc' : check (fr s (aft s rem k)).1 (fr s (aft s rem k)).2 = 0 := by simpa using hc
        refine ⟨fun t ht => ?_, ?_⟩
        · rcases List.mem_cons.1 ht with rfl | ht
          · exact tok_good s _ g2 hc' h4
          · exact i1.1 t ht
        · have e : (tokAt s (aft s rem k)).text.data.toList.length = (fr s (aft s rem k)).2 := by
            simp only [tokAt]
            rw [Lib.extract_data]
            simp; omega
          simp only [sp, List.flatMap_cons, List.length_append, List.length_cons, e]
          have := i1.2
          unfold sp at this
          omega

theorem sp_ends (l : List Tok) : Ends (sp l) := by
  cases l with
  | nil => exact .inl rfl
  | cons t l => exact .inr ⟨_, by simp [sp]; rfl⟩

/-- The kinds and texts of tokens. -/
def kt (l : List Tok) : List (Nat × ByteArray) := l.map fun t => (t.kind, t.text)

theorem run_printed (s P : ByteArray) : ∀ (l : List Tok), (∀ t ∈ l, Good s t) → (∀ k, k ≤ P.size → P.data.toList.drop k = sp l → kt (run P false k).1 = kt l ∧ (run P false k).2 = none) ∧
    (∀ k t r, l = t :: r → k ≤ P.size → P.data.toList.drop k = t.text.data.toList ++ sp r → kt (run P false k).1 = kt l ∧ (run P false k).2 = none) := by
  intro l
  induction l with
  | nil =>
    intro _
    refine ⟨fun k hk hd => ?_, fun k t r h => by cases h⟩
    have : P.size ≤ k := by
      have := congrArg List.length hd
      simp [sp] at this
      omega
    obtain rfl : k = P.size := by omega
    rw [run_last]; exact ⟨rfl, rfl⟩
  | cons t r ih =>
    intro hg
    have ih' := (ih (fun x hx => hg x (by simp [hx]))).1
    have hB : ∀ k, k ≤ P.size → P.data.toList.drop k = t.text.data.toList ++ sp r → kt (run P false k).1 = kt (t :: r) ∧ (run P false k).2 = none := by
      intro k hk hd
      have G := hg t (by simp)
      obtain ⟨b, q, hb, hgb⟩ := G.gap
      have hlt : k < P.size := by
        have := congrArg List.length hd
        rw [hb] at this
        simp at this
        omega
      have hPk : P[k] = b := by
        have := drop_cons P k hlt
        rw [hd, hb] at this
        simp at this
        exact this.1.symm
      have ha : aft P false k = k := aft_here P k hlt (by rw [hPk]; exact hgb)
      have hf : fr P k = (t.kind, t.text.size) := by unfold fr; rw [hd]; exact G.front _ (sp_ends r)
      have hrt := run_tok P false k hk (by rw [ha, hf]; exact G.ok) (by rw [ha, hf]; exact G.kind)
      rw [ha] at hrt
      have hsl : t.text.data.toList.length = t.text.size := by simp
      have hfit : k + t.text.size ≤ P.size := by
        have := congrArg List.length hd
        simp only [List.length_drop, List.length_append] at this
        have : P.data.toList.length = P.size := by simp
        omega
      have hd2 : P.data.toList.drop (k + t.text.size) = sp r := by
        rw [← List.drop_drop, hd, ← hsl, List.drop_left]
      have htx : P.extract k (k + t.text.size) = t.text := by
        apply ByteArray.ext
        apply Array.toList_inj.1
        rw [Lib.extract_data, hd, show k + t.text.size - k = t.text.data.toList.length by omega, List.take_left]
      obtain ⟨i1, i2⟩ := ih' (k + t.text.size) hfit hd2
      rw [hrt, hf]
      simp only
      refine ⟨?_, i2⟩
      simp only [kt, List.map_cons, tokAt, hf, htx]
      congr 1
    refine ⟨fun k hk hd => ?_, fun k t' r' h hk hd => by cases h; exact hB k hk hd⟩
    have hd' : P.data.toList.drop k = 32 :: (t.text.data.toList ++ sp r) := by rw [hd]; simp [sp]
    have hlt : k < P.size := by
      have := congrArg List.length hd'
      simp at this
      omega
    have hc := drop_cons P k hlt
    rw [hd'] at hc
    simp only [List.cons.injEq] at hc
    have hsk := run_skip P false k hlt (by rw [← hc.1]; decide)
    rw [← hc.1] at hsk
    have : run P false k = run P false (k + 1) := hsk
    rw [this]
    exact hB (k + 1) (by omega) hc.2.symm

theorem pj_le (l : List Tok) : (pj l).length ≤ (sp l).length := by
  cases l with
  | nil => simp [pj]
  | cons t l => simp [pj, sp]
theorem sp_take (l : List Tok) (k : Nat) : (sp (l.take k)).length ≤ (sp l).length := by
  have : sp l = sp (l.take k) ++ sp (l.drop k) := by
    unfold sp; rw [← List.flatMap_append, List.take_append_drop]
  rw [this, List.length_append]; omega

/-- **P3.3.** -/
theorem back (s : ByteArray) (P : ByteArray) (hP : P = ⟨(pj (run s false 0).1).toArray⟩) : kt (run P false 0).1 = kt (run s false 0).1 ∧ (run P false 0).2 = none := by
  obtain ⟨hg, _⟩ := run_good s s.size 0 false (by omega) (Nat.zero_le _)
  have hl : P.data.toList = pj (run s false 0).1 := by rw [hP]
  generalize (run s false 0).1 = l at *
  cases l with
  | nil =>
    have : P = ⟨#[]⟩ := by rw [hP]; rfl
    rw [this]
    have h0 := run_last ⟨#[]⟩ false
    have e : (⟨#[]⟩ : ByteArray).size = 0 := rfl
    rw [e] at h0
    rw [h0]; exact ⟨rfl, rfl⟩
  | cons t r =>
    exact (run_printed s P (t :: r) hg).2 0 t r rfl (Nat.zero_le _) (by rw [List.drop_zero, hl]; rfl)

end Go.Proofs.Ytainjagbcbjnbaa
