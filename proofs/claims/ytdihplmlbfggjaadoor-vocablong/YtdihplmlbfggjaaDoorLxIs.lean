/-
  The contracts of the document's Is, of lex.Value and of the document's Value.
-/
import Derived.Test.YtdihplmlbfggjaaDoorLxJust
namespace Go.Proofs.YtdihplmlbfggjaaDoor.Lx
open Go Go.RowKit Go.Shelf Plain Lex

theorem str_eq (a b : ByteArray) : (a.toList == b.toList) = true ↔ a = b := by
  rw [beq_iff_eq, Lib.toList_data, Lib.toList_data]
  constructor
  · intro h; exact ByteArray.ext (Array.toList_inj.1 h)
  · intro h; rw [h]

set_option maxRecDepth 100000 in
set_option maxHeartbeats 1600000 in
theorem Is_calls (s : ByteArray) (hs : s.size ≤ 20000) (kd : Nat) (hk : kd = 1 ∨ kd = 2) (w : World) : Calls Tryd.prog 32 #[.string s, .int .i64 kd] w fun e w' => e = .returned (.bool (justB s kd)) ∧ Below w.heap.size w w' := by
  obtain ⟨N, hN⟩ : ∃ N, w.heap.size = N := ⟨_, rfl⟩
  have HN : Hid (w.heap.size = N) := hN
  have hj := just_iff s kd hk
  have cR := refSplit_calls s hs
  have hco := run_code s s.size 0 false
  generalize run s false 0 = r at *
  obtain ⟨ts, o⟩ := r
  clear hN
  cases o with
  | some b =>
    have hb := hco b (by omega) (Nat.zero_le _) rfl
    have HV : Hid (justB s kd = false) := by
      show _ = _
      rw [← Bool.not_eq_true, hj]; simp
    have hcb : ((b.code : Int) == 0) = false := by simp; omega
    generalize justB s kd = jb at *
    clear hj hco hk
    have CR : Hid _ := cR
    clear cR
    go_enter Tryd.func32, Tryd.ntmps32
    go_wp2_with fail
    refine (CR.out _).mono ?_
    rintro e w1 ⟨v, rfl, hrow, hb1⟩
    rw [HN.out] at hb1
    simp only [outF]
    obtain ⟨M, hM⟩ : ∃ M, w1.heap.size = M := ⟨_, rfl⟩
    have hN1 : N ≤ w1.heap.size := by have := hb1.size; rw [HN.out] at this; exact this
    go_wp2
    go_ret
    exact ⟨by rw [HV.out]; rfl, by rw [HN.out]; exact hb1.alloc (by omega) _⟩
  | none =>
    have hj' : justB s kd = true ↔ ∃ t, ts = [t] ∧ t.kind = kd ∧ t.text = s := by rw [hj]; simp
    clear hj hco
    by_cases h1 : ts.length = 1
    · obtain ⟨t, rfl⟩ : ∃ t, ts = [t] := List.length_eq_one_iff.1 h1
      obtain ⟨d0, hd0⟩ : ∃ d, ((t.kind : Int) == (kd : Int)) = d := ⟨_, rfl⟩
      have e0 : t.kind = kd ↔ d0 = true := by rw [← hd0]; simp; omega
      have HV : Hid (justB s kd = (d0 && (t.text.toList == s.toList))) := by
        show _ = _
        rw [Bool.eq_iff_iff, hj', Bool.and_eq_true, str_eq, ← e0]
        simp
      have CR : Hid _ := cR
      generalize justB s kd = jb at *
      clear cR e0 hj'
      go_enter Tryd.func32, Tryd.ntmps32
      go_wp2_with fail
      refine (CR.out _).mono ?_
      rintro e w1 ⟨v, rfl, hrow, hb1⟩
      rw [HN.out] at hb1
      simp only [outF]
      obtain ⟨a, cap, rfl, hcap, hat⟩ := hrow.shape
      obtain ⟨g, rfl, _, hg, q0, q1, q2⟩ := hat 0 t rfl
      simp only [outT, List.length_singleton, Nat.zero_mul, Nat.zero_add] at hcap q0 q1 q2 ⊢
      obtain ⟨M, hM⟩ : ∃ M, w1.heap.size = M := ⟨_, rfl⟩
      have hN1 : N ≤ w1.heap.size := by have := hb1.size; rw [HN.out] at this; exact this
      have p0 : ∀ o, (w1.alloc o).cell? ⟨g, 0, none⟩ = some (.int .i64 t.kind) := fun o => (World.cell?_of_block (w := w1) (Below.heap_alloc w1 o g hg)).trans q0
      have p1 : ∀ o, (w1.alloc o).cell? ⟨g, 1, none⟩ = some (.string t.text) := fun o => (World.cell?_of_block (w := w1) (Below.heap_alloc w1 o g hg)).trans q1
      clear hat hrow q0 q1 q2
      cases d0 with
      | false =>
        go_wp2
        go_ret
        exact ⟨by rw [HV.out]; rfl, by rw [HN.out]; exact hb1.alloc (by omega) _⟩
      | true =>
        go_wp2
        go_ret
        exact ⟨by rw [HV.out]; rfl, by rw [HN.out]; exact hb1.alloc (by omega) _⟩
    · have HV : Hid (justB s kd = false) := by
        show _ = _
        rw [← Bool.not_eq_true, hj']
        rintro ⟨t, rfl, _⟩
        exact h1 rfl
      have hlb : ((ts.length : Int) == 1) = false := by simp; omega
      have CR : Hid _ := cR
      generalize justB s kd = jb at *
      clear cR hj'
      go_enter Tryd.func32, Tryd.ntmps32
      go_wp2_with fail
      refine (CR.out _).mono ?_
      rintro e w1 ⟨v, rfl, hrow, hb1⟩
      rw [HN.out] at hb1
      simp only [outF]
      obtain ⟨a, cap, rfl, hcap, hat⟩ := hrow.shape
      simp only [outT] at hcap ⊢
      obtain ⟨M, hM⟩ : ∃ M, w1.heap.size = M := ⟨_, rfl⟩
      have hN1 : N ≤ w1.heap.size := by have := hb1.size; rw [HN.out] at this; exact this
      clear hat hrow
      go_wp2
      go_ret
      exact ⟨by rw [HV.out]; rfl, by rw [HN.out]; exact hb1.alloc (by omega) _⟩

/-- A number's value. -/
def numV (l : List UInt8) : Nat := l.foldl (fun n b => 10 * n + (b.toNat - 48)) 0
theorem numV_snoc (l : List UInt8) (b : UInt8) : numV (l ++ [b]) = 10 * numV l + (b.toNat - 48) := by simp [numV]
theorem numV_le (l : List UInt8) (h : ∀ b ∈ l, b.toNat ≤ 57) : numV l < 10 ^ l.length := by
  have : ∀ (l : List UInt8) (n m : Nat), (∀ b ∈ l, b.toNat ≤ 57) → n < m → l.foldl (fun n b => 10 * n + (b.toNat - 48)) n < m * 10 ^ l.length := by
    intro l
    induction l with
    | nil => intro n m _ h; simpa using h
    | cons b l ih =>
      intro n m hl hn
      rw [List.foldl_cons]
      have hb := hl b (by simp)
      have := ih (10 * n + (b.toNat - 48)) (10 * m) (fun x hx => hl x (by simp [hx])) (by omega)
      rw [List.length_cons, Nat.pow_succ]
      calc _ < 10 * m * 10 ^ l.length := this
        _ = m * (10 ^ l.length * 10) := by rw [Nat.mul_comm 10 m, Nat.mul_assoc, Nat.mul_comm 10]
  have h2 := this l 0 1 h (by omega)
  simpa [numV] using h2

theorem mem_tw {p : UInt8 → Bool} {l : List UInt8} {b : UInt8} (h : b ∈ l.takeWhile p) : p b = true := by
  induction l with
  | nil => simp at h
  | cons x l ih =>
    rw [List.takeWhile_cons] at h
    split at h
    · rename_i hx
      rcases List.mem_cons.1 h with h | h
      · rw [h]; exact hx
      · exact ih h
    · simp at h

/-- A text that is just a number: at most nine digits. -/
theorem just_num (s : ByteArray) (h : justB s 2 = true) : s.size ≤ 9 ∧ ∀ i (hi : i < s.size), 48 ≤ s[i].toNat ∧ s[i].toNat ≤ 57 := by
  unfold justB at h
  simp only [Bool.and_eq_true, decide_eq_true_eq] at h
  obtain ⟨⟨e1, e2⟩, e3⟩ := h
  rw [e1, e2] at e3
  refine ⟨by simp [check] at e3; omega, ?_⟩
  have hpos : 0 < s.size := by
    rcases Nat.eq_zero_or_pos s.size with h | h
    · rw [empty_of s h] at e1
      have : (front (⟨#[]⟩ : ByteArray).data.toList).1 = 4 := rfl
      omega
    · exact h
  have hd := drop_cons s 0 hpos
  rw [List.drop_zero] at hd
  rw [hd] at e1 e2
  unfold front at e1 e2
  simp only at e1 e2
  by_cases h1 : letterB s[0] = true
  · rw [if_pos h1] at e1; simp at e1
  · rw [if_neg h1] at e1 e2
    by_cases h2 : digitB s[0] = true
    · rw [if_pos h2, ← hd] at e2
      simp only at e2
      have hall : s.data.toList.takeWhile digitB = s.data.toList := by
        refine (List.takeWhile_prefix digitB).eq_of_length ?_
        rw [e2]; simp
      intro i hi
      have hm : s[i] ∈ s.data.toList.takeWhile digitB := by
        rw [hall]
        exact List.getElem_mem (l := s.data.toList) (n := i) (by simpa using hi)
      have := mem_tw hm
      simpa [digitB] using this
    · rw [if_neg h2] at e1
      exfalso
      split at e1
      · simp at e1
      · split at e1 <;> simp at e1

theorem take_snoc' (s : ByteArray) (k : Nat) (h : k < s.size) : s.data.toList.take (k + 1) = s.data.toList.take k ++ [s[k]] := by
  rw [List.take_succ_eq_append_getElem (by simpa using h)]; rfl
theorem num_step (s : ByteArray) (hs : s.size ≤ 9) (hd : ∀ i (hi : i < s.size), 48 ≤ s[i].toNat ∧ s[i].toNat ≤ 57) (k : Nat) (hk : k < s.size) :
    numV (s.data.toList.take (k + 1)) = 10 * numV (s.data.toList.take k) + (s[k].toNat - 48) ∧ numV (s.data.toList.take k) < 1000000000 := by
  refine ⟨by rw [take_snoc' s k hk, numV_snoc], ?_⟩
  have h1 := numV_le (s.data.toList.take k) (fun b hb => by
    obtain ⟨i, hi, rfl⟩ := List.getElem_of_mem hb
    have hi' : i < s.size := by simp at hi; omega
    have := (hd i hi').2
    rw [List.getElem_take]
    exact this)
  have h2 : (s.data.toList.take k).length ≤ 9 := by simp; omega
  have h3 : 10 ^ (s.data.toList.take k).length ≤ 10 ^ 9 := Nat.pow_le_pow_right (by omega) h2
  omega

/-- What lex.Value tells. -/
def valV (s : ByteArray) (kd : Int) : Array Value := if kd = 2 ∧ justB s 2 = true then #[.int .i64 (numV s.data.toList : Int), .int .i64 0] else #[.int .i64 0, .int .i64 1]

end Go.Proofs.YtdihplmlbfggjaaDoor.Lx
