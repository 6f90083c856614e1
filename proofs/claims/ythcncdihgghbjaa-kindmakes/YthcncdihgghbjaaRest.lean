/-
  The contracts of kind.Rest and the document's own Rest.
-/
import Derived.Test.YthcncdihgghbjaaArr
import Derived.WideShapes
namespace Go.Proofs.Ythcncdihgghbjaa
open Go Go.RowKit Go.Shelf

theorem sizeL_drop_le (ts : List Ty) (k : Nat) : sizeL (ts.drop k) ≤ sizeL ts := by
  conv => rhs; rw [← List.take_append_drop k ts, sizeL_append]
  omega
/-- A slice from its n-th type on. -/
theorem Holds.from {w : World} {ok : Nat → Prop} {ts : List Ty} {a : Option Addr} {cap : Nat} (h : Holds w ok ts (.slice a ts.length cap)) (k : Nat) (hk : k ≤ ts.length) (b : Option Addr)
    (hb : ∀ g o, a = some ⟨g, o, none⟩ → k < ts.length → b = some ⟨g, o + k * 2, none⟩) (hn : b = none → cap - k = 0) : Holds w ok (ts.drop k) (.slice b (ts.length - k) (cap - k)) := by
  by_cases hlt : k < ts.length
  · obtain ⟨g, o, rfl, hd⟩ := h.drop k hlt
    rw [hb g o rfl hlt]
    exact hd
  · have e : ts.drop k = [] := List.drop_eq_nil_of_le (by omega)
    rw [e, show ts.length - k = 0 by omega]
    exact Holds.nil _ _ _ _ hn

theorem Holds.cut {w : World} {ok : Nat → Prop} {ts : List Ty} {a : Option Addr} {cap : Nat} (h : Holds w ok ts (.slice a ts.length cap)) (n : Nat) (hn : n ≤ ts.length) (hcap : ts.length ≤ cap) :
    Holds w ok (ts.drop n) (.slice (if cap = n then a else Option.map (fun x => x.add (n * 2)) a) (ts.length - n) (cap - n)) := by
  refine h.from n hn _ (fun g o ha hlt => ?_) (fun hb => ?_)
  · rw [if_neg (by omega), ha]
    exact congrArg some (Go.WideShapes.add_plain g o (n * 2))
  · by_cases hc : cap = n
    · omega
    · rw [if_neg hc] at hb
      cases a with
      | none => have := h.isnil; omega
      | some x => cases hb

set_option maxRecDepth 100000 in
set_option maxHeartbeats 1600000 in
theorem Rest_no (t : Ty) (n : Int) (ok : Nat → Prop) (sl : Value) (w : World) (hh : Holds w ok t.args sl) (hn : n < 0 ∨ (t.args.length : Int) < n) :
    Calls Try.prog 27 #[tv sl t.base, .int .i64 n] w fun e w' => e = .returned (.tuple #[tv (.slice none 0 0) 0, .int .i64 1]) ∧ Below w.heap.size w w' := by
  obtain ⟨a, cap, rfl, _⟩ := hh.shape
  generalize t.args.length = tn at *
  obtain ⟨N, hN⟩ : ∃ N, w.heap.size = N := ⟨_, rfl⟩
  rw [hN]
  by_cases h0 : n < 0
  · have z0 : decide (n < 0) = true := decide_eq_true h0
    clear hn
    go_enter Try.func27, Try.ntmps27
    go_wp2
    exact bodyPost_ret (v := .tuple #[tv (.slice none 0 0) 0, .int .i64 1]) (by simp [results, Try.results27, go_sem, hN]) rfl ⟨rfl, ((Below.refl N w).alloc (by omega) _).alloc (by simp; omega) _⟩
  · have z0 : decide (n < 0) = false := decide_eq_false h0
    have h1 : (tn : Int) < n := by omega
    have z1 : decide ((tn : Int) < n) = true := decide_eq_true h1
    clear hn
    go_enter Try.func27, Try.ntmps27
    go_wp2
    exact bodyPost_ret (v := .tuple #[tv (.slice none 0 0) 0, .int .i64 1]) (by simp [results, Try.results27, go_sem, hN]) rfl ⟨rfl, ((Below.refl N w).alloc (by omega) _).alloc (by simp; omega) _⟩

set_option maxRecDepth 100000 in
set_option maxHeartbeats 3200000 in
theorem Rest_yes (t : Ty) (n : Nat) (ok : Nat → Prop) (sl : Value) (w : World) (hh : Holds w ok t.args sl) (hn : n ≤ t.args.length) (hsz : t.size ≤ 1000000) :
    Calls Try.prog 27 #[tv sl t.base, .int .i64 (n : Int)] w fun e w' => ∃ v, e = .returned (.tuple #[tv v t.base, .int .i64 0]) ∧ Holds w' okT (t.args.drop n) v ∧ Below w.heap.size w w' := by
  have hs2 := t.size_eq
  have hl := sizeL_length t.args
  have hsd := sizeL_drop_le t.args n
  obtain ⟨ts, hts⟩ : ∃ ts, t.args = ts := ⟨_, rfl⟩
  rw [hts] at hh hn hs2 hl hsd ⊢
  obtain ⟨a, cap, rfl, hcap, _⟩ := hh.shape
  obtain ⟨N, hN⟩ : ∃ N, w.heap.size = N := ⟨_, rfl⟩
  rw [hN]
  have hsb : sizeL (ts.drop n) ≤ 1000000 := by omega
  have z0 : decide ((n : Int) < 0) = false := by simp
  have z1 : decide ((ts.length : Int) < (n : Int)) = false := by simp; omega
  have y1 : (0 : Int) ≤ (n : Int) := by omega
  have y2 : (n : Int) ≤ (ts.length : Int) := by omega
  clear hs2 hsd
  go_enter Try.func27, Try.ntmps27
  go_wp2_with fail
  generalize hw0 : (w.alloc (.cells #[.slice a ts.length cap, .int .i64 t.base] 29)).alloc (.cells #[.slice none 0 0, .int .i64 0] 29) = w0
  have b0 : Blk w0 N 29 #[.slice a ts.length cap, .int .i64 t.base] := by rw [← hw0]; exact (Blk.new' w N 29 _ hN).alloc _
  have b1 : Blk w0 (N + 1) 29 #[.slice none 0 0, .int .i64 0] := by rw [← hw0]; exact Blk.new' _ (N + 1) 29 _ (by simp [hN])
  have hz : w0.heap.size = N + 1 + 1 := by rw [← hw0]; simp [hN]
  have bl0 : Below N w w0 := by rw [← hw0]; exact ((Below.refl N w).alloc (by omega) _).alloc (by simp; omega) _
  have hh0 : Holds w0 ok ts (.slice a ts.length cap) := hh.bel (by rw [hN]; exact bl0)
  clear hw0
  have c0 := b0.cell 0
  have c1 := b0.cell 1
  have s0 := b1.cell 0
  have s1 := b1.cell 1
  have f0 := b1.frozen 0
  have f1 := b1.frozen 1
  have hcall : ∀ x : Option Addr, x = (if cap = n then a else Option.map (fun x => x.add (n * 2)) a) → Calls Try.prog 25 #[.int .i64 t.base, .slice x (ts.length - n) (cap - n)] w0.drew fun e w' => ∃ va vn vc, e = .returned (tv (.slice va vn vc) t.base) ∧ Holds w' (fun b => N + 1 + 1 ≤ b) (ts.drop n) (.slice va vn vc) ∧ Below (N + 1 + 1) w0 w' := by
    rintro x rfl
    refine (kOf_calls t.base (ts.drop n) ok _ w0.drew (hh0.drew.cut n hn hcap) hsb).mono ?_
    rintro e w' ⟨v, rfl, hv, hb⟩
    obtain ⟨va, vc, rfl, _⟩ := hv.shape
    have hz' : w0.drew.heap.size = N + 1 + 1 := hz
    rw [hz'] at hv hb
    exact ⟨va, _, vc, rfl, hv, (Below.refl _ w0).drew.trans hb⟩
  have HC : Hid _ := hcall
  clear hcall
  go_region_law (go_simp; go_at_call 25; refine (HC.out _ (by first | rfl | congr)).mono ?_; rintro e w2 ⟨va, vn, vc, rfl, hv, hb2⟩; have d0 := (cat hb2 (show N + 1 < N + 1 + 1 by omega)).trans s0; have d1 := (cat hb2 (show N + 1 < N + 1 + 1 by omega)).trans s1; have hB2 := b1.below hb2 (by omega); have g0 := hB2.frozen 0; have g1 := hB2.frozen 1)
  all_goals
    have c9 := (hB2.set 0 (.slice va vn vc)).set 1 (.int .i64 t.base)
    have hH9 : Holds ((w2.setCell ⟨N + 1, 0, none⟩ (.slice va vn vc)).setCell ⟨N + 1, 1, none⟩ (.int .i64 t.base)) okT (ts.drop n) (.slice va vn vc) := holds_set2 hv (fun b _ ho => ⟨by omega, trivial⟩) _ _ _ _
    have hB9 : Below N w ((w2.setCell ⟨N + 1, 0, none⟩ (.slice va vn vc)).setCell ⟨N + 1, 1, none⟩ (.int .i64 t.base)) := bset (bset (bl0.trans (hb2.mono (by omega))) (by omega) _) (by omega) _
    clear hv hb2 d0 d1 hB2 g0 g1
    generalize (w2.setCell ⟨N + 1, 0, none⟩ (.slice va vn vc)).setCell ⟨N + 1, 1, none⟩ (.int .i64 t.base) = W5 at *
    have d0 : W5.cell? ⟨N + 1, 0, none⟩ = some (.slice va vn vc) := c9.cell 0
    have d1 : W5.cell? ⟨N + 1, 1, none⟩ = some (.int .i64 t.base) := c9.cell 1
    go_wp2
    all_goals exact bodyPost_ret (v := .tuple #[tv (.slice va vn vc) t.base, .int .i64 0]) (by simp [results, Try.results27, go_sem, d0, d1]) rfl ⟨_, rfl, hH9, hB9⟩

set_option maxRecDepth 100000 in
set_option maxHeartbeats 3200000 in
theorem refRest_calls (t : Ty) (n : Nat) (ok : Nat → Prop) (sl : Value) (w : World) (hh : Holds w ok t.args sl) (hn : n ≤ t.args.length) (hsz : t.args.length ≤ 1000000) :
    Calls Try.prog 28 #[tv sl t.base, .int .i64 (n : Int)] w fun e w' => ∃ v, e = .returned (tv v t.base) ∧ Holds w' okT (t.args.drop n) v ∧ Below w.heap.size w w' := by
  obtain ⟨ts, hts⟩ : ∃ ts, t.args = ts := ⟨_, rfl⟩
  rw [hts] at hh hn hsz ⊢
  obtain ⟨a, cap, rfl, hcap, _⟩ := hh.shape
  obtain ⟨N, hN⟩ : ∃ N, w.heap.size = N := ⟨_, rfl⟩
  rw [hN]
  have y1 : (0 : Int) ≤ (n : Int) := by omega
  have y2 : (n : Int) ≤ (ts.length : Int) := by omega
  go_enter Try.func28, Try.ntmps28
  go_wp2_with fail
  generalize hw0 : (w.alloc (.cells #[.slice a ts.length cap, .int .i64 t.base] 24)).alloc (.cells #[.slice none 0 0, .int .i64 0] 24) = w0
  have b0 : Blk w0 N 24 #[.slice a ts.length cap, .int .i64 t.base] := by rw [← hw0]; exact (Blk.new' w N 24 _ hN).alloc _
  have b1 : Blk w0 (N + 1) 24 #[.slice none 0 0, .int .i64 0] := by rw [← hw0]; exact Blk.new' _ (N + 1) 24 _ (by simp [hN])
  have hz : w0.heap.size = N + 1 + 1 := by rw [← hw0]; simp [hN]
  have bl0 : Below N w w0 := by rw [← hw0]; exact ((Below.refl N w).alloc (by omega) _).alloc (by simp; omega) _
  have hh1 : Holds w0 (fun b => b ≠ N + 1) ts (.slice a ts.length cap) := (hh.mono (ok' := fun b => b ≠ N + 1) (fun b hb _ => by omega)).bel (by rw [hN]; exact bl0)
  clear hw0
  have c0 := b0.cell 0
  have c1 := b0.cell 1
  have s0 := b1.cell 0
  have s1 := b1.cell 1
  have f0 := b1.frozen 0
  have f1 := b1.frozen 1
  have hcall : ∀ x : Option Addr, x = (if cap = n then a else Option.map (fun x => x.add (n * 2)) a) → Calls Try.prog 29 #[tv (.slice none 0 0) t.base, .slice x (ts.length - n) (cap - n)] w0.drew fun e w' => ∃ va vn vc, e = .returned (tv (.slice va vn vc) t.base) ∧ Holds w' (fun b => b ≠ N + 1) (ts.drop n) (.slice va vn vc) ∧ Below (N + 1 + 1) w0 w' := by
    rintro x rfl
    have hc := refArrow_calls (.mk [] t.base) (ts.drop n) (fun b => b ≠ N + 1) (.slice none 0 0) _ w0.drew (Holds.nil _ _ _ _ (fun _ => rfl)) (hh1.drew.cut n hn hcap) (by show 0 + (ts.drop n).length ≤ _; simp; omega)
    refine hc.mono ?_
    rintro e w' ⟨v, rfl, hv, hb⟩
    obtain ⟨va, vc, rfl, _⟩ := hv.shape
    have hz' : w0.drew.heap.size = N + 1 + 1 := hz
    rw [hz'] at hv hb
    refine ⟨va, _, vc, rfl, ?_, (Below.refl _ w0).drew.trans hb⟩
    have he : ts.drop n ++ (Ty.mk [] t.base).args = ts.drop n := by simp [Ty.args]
    rw [he] at hv ⊢
    exact hv.mono fun b _ ho => by
      rcases ho with h | h
      · exact h
      · omega
  have HC : Hid _ := hcall
  clear hcall
  go_region_law (go_simp; go_at_call 29; refine (HC.out _ (by first | rfl | congr)).mono ?_; rintro e w2 ⟨va, vn, vc, rfl, hv, hb2⟩; have d0 := (cat hb2 (show N + 1 < N + 1 + 1 by omega)).trans s0; have d1 := (cat hb2 (show N + 1 < N + 1 + 1 by omega)).trans s1; have hB2 := b1.below hb2 (by omega); have g0 := hB2.frozen 0; have g1 := hB2.frozen 1)
  all_goals
    have c9 := (hB2.set 0 (.slice va vn vc)).set 1 (.int .i64 t.base)
    have hH9 : Holds ((w2.setCell ⟨N + 1, 0, none⟩ (.slice va vn vc)).setCell ⟨N + 1, 1, none⟩ (.int .i64 t.base)) okT (ts.drop n) (.slice va vn vc) := holds_set2 hv (fun b _ ho => ⟨ho, trivial⟩) _ _ _ _
    have hB9 : Below N w ((w2.setCell ⟨N + 1, 0, none⟩ (.slice va vn vc)).setCell ⟨N + 1, 1, none⟩ (.int .i64 t.base)) := bset (bset (bl0.trans (hb2.mono (by omega))) (by omega) _) (by omega) _
    clear hv hb2 d0 d1 hB2 g0 g1
    generalize (w2.setCell ⟨N + 1, 0, none⟩ (.slice va vn vc)).setCell ⟨N + 1, 1, none⟩ (.int .i64 t.base) = W5 at *
    have d0 : W5.cell? ⟨N + 1, 0, none⟩ = some (.slice va vn vc) := c9.cell 0
    have d1 : W5.cell? ⟨N + 1, 1, none⟩ = some (.int .i64 t.base) := c9.cell 1
    go_wp2
    all_goals exact bodyPost_ret (v := tv (.slice va vn vc) t.base) (by simp [results, Try.results28, go_sem, d0, d1]) rfl ⟨_, rfl, hH9, hB9⟩

end Go.Proofs.Ythcncdihgghbjaa
