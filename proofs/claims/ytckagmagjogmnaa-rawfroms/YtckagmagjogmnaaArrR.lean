/-
  The contracts of kind.Arrow, kind.Rest and kind.Size.
-/
import Derived.Test.YtckagmagjogmnaaMake
import Derived.Test.YtckagmagjogmnaaWithin
import Derived.WideShapes
namespace Go.Proofs.Ytckagmagjogmnaa
open Go Go.RowKit Go.Shelf

set_option maxRecDepth 100000 in
set_option maxHeartbeats 1600000 in
theorem Arrow_calls (t : Ty) (us : List Ty) (ok : Nat → Prop) (sl sl' : Value) (w : World) (hh : Holds w ok t.args sl) (hh' : Holds w ok us sl') (hsz : sizeL t.args + sizeL us ≤ 1000000) :
    Calls Try.prog 103 #[tv sl t.base, sl'] w fun e w' => ∃ v, e = .returned (tv v t.base) ∧ Holds w' (fun b => w.heap.size ≤ b) (us ++ t.args) v ∧ Below w.heap.size w w' := by
  obtain ⟨ts, hts⟩ : ∃ ts, t.args = ts := ⟨_, rfl⟩
  rw [hts] at hh hsz ⊢
  have hl := sizeL_length ts
  have hl' := sizeL_length us
  obtain ⟨a, cap, rfl, _⟩ := hh.shape
  obtain ⟨a', cap', rfl, _⟩ := hh'.shape
  obtain ⟨N, hN⟩ : ∃ N, w.heap.size = N := ⟨_, rfl⟩
  rw [hN]
  have hIH : Hid (∀ u, u ∈ us ∨ u ∈ ts → FreshAt u) := fun u hu => hu.elim (fun h => fresh_all (by omega) u h) (fun h => fresh_all (by omega) u h)
  go_enter Try.func103, Try.ntmps103
  go_wp2_with fail
  generalize hw0 : (w.alloc (.cells #[.slice a ts.length cap, .int .i64 t.base] 32)).alloc (.cells #[.slice none 0 0, .int .i64 0] 32) = w0
  have b0 : Blk w0 N 32 #[.slice a ts.length cap, .int .i64 t.base] := by rw [← hw0]; exact (Blk.new' w N 32 _ hN).alloc _
  have b1 : Blk w0 (N + 1) 32 #[.slice none 0 0, .int .i64 0] := by rw [← hw0]; exact Blk.new' _ (N + 1) 32 _ (by simp [hN])
  have hz : w0.heap.size = N + 1 + 1 := by rw [← hw0]; simp [hN]
  have bl0 : Below N w w0 := by rw [← hw0]; exact ((Below.refl N w).alloc (by omega) _).alloc (by simp; omega) _
  have hh0 : Holds w0 ok ts (.slice a ts.length cap) := hh.bel (by rw [hN]; exact bl0)
  have hh1 : Holds w0 ok us (.slice a' us.length cap') := hh'.bel (by rw [hN]; exact bl0)
  clear hw0
  have c0 := b0.cell 0
  have c1 := b0.cell 1
  have s0 := b1.cell 0
  have s1 := b1.cell 1
  have f0 := b1.frozen 0
  have f1 := b1.frozen 1
  have hcall : Hid (∀ d, d = w0.drew → Calls Try.prog 67 #[.slice (some ⟨N + 1 + 1, 0, none⟩) 2 2] (d.alloc (.cells #[.slice a' us.length cap', .slice a ts.length cap] 30)) fun e w' => ∃ va vn vc, e = .returned (.slice va vn vc) ∧ Holds w' (fun b => N + 1 + 1 ≤ b) (us ++ ts) (.slice va vn vc) ∧ Below (N + 1 + 1) w0 w') := by
    rintro d rfl
    have hz' : w0.drew.heap.size = N + 1 + 1 := hz
    have hb := Blk.new' w0.drew (N + 1 + 1) 30 #[.slice a' us.length cap', .slice a ts.length cap] hz'
    refine (freshAll_two ok (.slice a' us.length cap') (.slice a ts.length cap) us ts (N + 1 + 1) _ (hb.cell 0) (hb.cell 1) (hh1.drew.alloc _) (hh0.drew.alloc _) (by omega) hIH.out).mono ?_
    rintro e w' ⟨v, rfl, hv, hb'⟩
    obtain ⟨va, vc, rfl, _⟩ := hv.shape
    refine ⟨va, _, vc, rfl, hv.mono (fun b _ h => by simp at h; omega), ?_⟩
    exact (((Below.refl _ w0).drew).alloc (by show N + 1 + 1 ≤ w0.heap.size; omega) _).trans (hb'.mono (by simp; omega))
  go_region_law (go_simp; go_at_call 67; refine (hcall.out _ rfl).mono ?_; rintro e w2 ⟨va, vn, vc, rfl, hv, hb2⟩; have e1 := (cat hb2 (show N < N + 1 + 1 by omega)).trans c1; have d0 := (cat hb2 (show N + 1 < N + 1 + 1 by omega)).trans s0; have d1 := (cat hb2 (show N + 1 < N + 1 + 1 by omega)).trans s1; have hB2 := b1.below hb2 (by omega); have g0 := hB2.frozen 0; have g1 := hB2.frozen 1)
  all_goals
    have c9 := (hB2.set 0 (.slice va vn vc)).set 1 (.int .i64 t.base)
    have hH9 : Holds ((w2.setCell ⟨N + 1, 0, none⟩ (.slice va vn vc)).setCell ⟨N + 1, 1, none⟩ (.int .i64 t.base)) (fun b => N ≤ b) (us ++ ts) (.slice va vn vc) := holds_set2 hv (fun b _ ho => ⟨by omega, by omega⟩) _ _ _ _
    have hB9 : Below N w ((w2.setCell ⟨N + 1, 0, none⟩ (.slice va vn vc)).setCell ⟨N + 1, 1, none⟩ (.int .i64 t.base)) := bset (bset (bl0.trans (hb2.mono (by omega))) (by omega) _) (by omega) _
    clear hv hb2 e1 d0 d1 hB2 g0 g1
    generalize (w2.setCell ⟨N + 1, 0, none⟩ (.slice va vn vc)).setCell ⟨N + 1, 1, none⟩ (.int .i64 t.base) = W5 at *
    go_wp2
    have d0 : W5.cell? ⟨N + 1, 0, none⟩ = some (.slice va vn vc) := c9.cell 0
    have d1 : W5.cell? ⟨N + 1, 1, none⟩ = some (.int .i64 t.base) := c9.cell 1
    exact bodyPost_ret (v := tv (.slice va vn vc) t.base) (by simp [results, Try.results103, go_sem, d0, d1]) rfl ⟨_, rfl, hH9, hB9⟩

theorem sizeL_drop_le (ts : List Ty) (k : Nat) : sizeL (ts.drop k) ≤ sizeL ts := by
  conv => rhs; rw [← List.take_append_drop k ts, sizeL_append]
  omega
/-- A slice from its n-th type on. -/
theorem Holds.from {w : World} {ok : Nat → Prop} {ts : List Ty} {a : Option Addr} {cap : Nat} (h : Holds w ok ts (.slice a ts.length cap)) (k : Nat) (hk : k ≤ ts.length) (b : Option Addr)
    (hb : ∀ g o, a = some ⟨g, o, none⟩ → k < ts.length → b = some ⟨g, o + k * 2, none⟩) (hn : b = none → cap - k = 0) : Holds w ok (ts.drop k) (.slice b (ts.length - k) (cap - k)) := by
  by_cases hlt : k < ts.length
  · obtain ⟨g, o, rfl, hd⟩ := h.drop k hlt
    rw [hb g o rfl hlt]
    exact hd
  · have e : ts.drop k = [] := List.drop_eq_nil_of_le (by omega)
    rw [e, show ts.length - k = 0 by omega]
    exact Holds.nil _ _ _ _ hn
theorem Holds.cut {w : World} {ok : Nat → Prop} {ts : List Ty} {a : Option Addr} {cap : Nat} (h : Holds w ok ts (.slice a ts.length cap)) (n : Nat) (hn : n ≤ ts.length) (hcap : ts.length ≤ cap) :
    Holds w ok (ts.drop n) (.slice (if cap = n then a else Option.map (fun x => x.add (n * 2)) a) (ts.length - n) (cap - n)) := by
  refine h.from n hn _ (fun g o ha hlt => ?_) (fun hb => ?_)
  · rw [if_neg (by omega), ha]
    exact congrArg some (Go.WideShapes.add_plain g o (n * 2))
  · by_cases hc : cap = n
    · omega
    · rw [if_neg hc] at hb
      cases a with
      | none => have := h.isnil; omega
      | some x => cases hb
set_option maxRecDepth 100000 in
set_option maxHeartbeats 1600000 in
theorem Rest_no (t : Ty) (n : Int) (ok : Nat → Prop) (sl : Value) (w : World) (hh : Holds w ok t.args sl) (hn : n < 0 ∨ (t.args.length : Int) < n) :
    Calls Try.prog 104 #[tv sl t.base, .int .i64 n] w fun e w' => e = .returned (.tuple #[tv (.slice none 0 0) 0, .int .i64 1]) ∧ Below w.heap.size w w' := by
  obtain ⟨a, cap, rfl, _⟩ := hh.shape
  generalize t.args.length = tn at *
  obtain ⟨N, hN⟩ : ∃ N, w.heap.size = N := ⟨_, rfl⟩
  rw [hN]
  by_cases h0 : n < 0
  · have z0 : decide (n < 0) = true := decide_eq_true h0
    clear hn
    go_enter Try.func104, Try.ntmps104
    go_wp2
    exact bodyPost_ret (v := .tuple #[tv (.slice none 0 0) 0, .int .i64 1]) (by simp [results, Try.results104, go_sem, hN]) rfl ⟨rfl, ((Below.refl N w).alloc (by omega) _).alloc (by simp; omega) _⟩
  · have z0 : decide (n < 0) = false := decide_eq_false h0
    have h1 : (tn : Int) < n := by omega
    have z1 : decide ((tn : Int) < n) = true := decide_eq_true h1
    clear hn
    go_enter Try.func104, Try.ntmps104
    go_wp2
    exact bodyPost_ret (v := .tuple #[tv (.slice none 0 0) 0, .int .i64 1]) (by simp [results, Try.results104, go_sem, hN]) rfl ⟨rfl, ((Below.refl N w).alloc (by omega) _).alloc (by simp; omega) _⟩

set_option maxRecDepth 100000 in
set_option maxHeartbeats 3200000 in
theorem Rest_yes (t : Ty) (n : Nat) (ok : Nat → Prop) (sl : Value) (w : World) (hh : Holds w ok t.args sl) (hn : n ≤ t.args.length) (hsz : t.size ≤ 1000000) :
    Calls Try.prog 104 #[tv sl t.base, .int .i64 (n : Int)] w fun e w' => ∃ v, e = .returned (.tuple #[tv v t.base, .int .i64 0]) ∧ Holds w' (fun b => w.heap.size ≤ b) (t.args.drop n) v ∧ Below w.heap.size w w' := by
  have hs2 := t.size_eq
  have hl := sizeL_length t.args
  have hsd := sizeL_drop_le t.args n
  obtain ⟨ts, hts⟩ : ∃ ts, t.args = ts := ⟨_, rfl⟩
  rw [hts] at hh hn hs2 hl hsd ⊢
  obtain ⟨a, cap, rfl, hcap, _⟩ := hh.shape
  obtain ⟨N, hN⟩ : ∃ N, w.heap.size = N := ⟨_, rfl⟩
  rw [hN]
  have hsb : sizeL (ts.drop n) ≤ 1000000 := by omega
  have z0 : decide ((n : Int) < 0) = false := by simp
  have z1 : decide ((ts.length : Int) < (n : Int)) = false := by simp; omega
  have y1 : (0 : Int) ≤ (n : Int) := by omega
  have y2 : (n : Int) ≤ (ts.length : Int) := by omega
  clear hs2 hsd
  go_enter Try.func104, Try.ntmps104
  go_wp2_with fail
  generalize hw0 : (w.alloc (.cells #[.slice a ts.length cap, .int .i64 t.base] 32)).alloc (.cells #[.slice none 0 0, .int .i64 0] 32) = w0
  have b0 : Blk w0 N 32 #[.slice a ts.length cap, .int .i64 t.base] := by rw [← hw0]; exact (Blk.new' w N 32 _ hN).alloc _
  have b1 : Blk w0 (N + 1) 32 #[.slice none 0 0, .int .i64 0] := by rw [← hw0]; exact Blk.new' _ (N + 1) 32 _ (by simp [hN])
  have hz : w0.heap.size = N + 1 + 1 := by rw [← hw0]; simp [hN]
  have bl0 : Below N w w0 := by rw [← hw0]; exact ((Below.refl N w).alloc (by omega) _).alloc (by simp; omega) _
  have hh0 : Holds w0 ok ts (.slice a ts.length cap) := hh.bel (by rw [hN]; exact bl0)
  clear hw0
  have c0 := b0.cell 0
  have c1 := b0.cell 1
  have s0 := b1.cell 0
  have s1 := b1.cell 1
  have f0 := b1.frozen 0
  have f1 := b1.frozen 1
  have hcall : ∀ x : Option Addr, x = (if cap = n then a else Option.map (fun x => x.add (n * 2)) a) → Calls Try.prog 40 #[.int .i64 t.base, .slice x (ts.length - n) (cap - n)] w0.drew fun e w' => ∃ va vn vc, e = .returned (tv (.slice va vn vc) t.base) ∧ Holds w' (fun b => N + 1 + 1 ≤ b) (ts.drop n) (.slice va vn vc) ∧ Below (N + 1 + 1) w0 w' := by
    rintro x rfl
    refine (kOf_calls t.base (ts.drop n) ok _ w0.drew (hh0.drew.cut n hn hcap) hsb).mono ?_
    rintro e w' ⟨v, rfl, hv, hb⟩
    obtain ⟨va, vc, rfl, _⟩ := hv.shape
    have hz' : w0.drew.heap.size = N + 1 + 1 := hz
    rw [hz'] at hv hb
    exact ⟨va, _, vc, rfl, hv, (Below.refl _ w0).drew.trans hb⟩
  have HC : Hid _ := hcall
  clear hcall
  go_region_law (go_simp; go_at_call 40; refine (HC.out _ (by first | rfl | congr)).mono ?_; rintro e w2 ⟨va, vn, vc, rfl, hv, hb2⟩; have d0 := (cat hb2 (show N + 1 < N + 1 + 1 by omega)).trans s0; have d1 := (cat hb2 (show N + 1 < N + 1 + 1 by omega)).trans s1; have hB2 := b1.below hb2 (by omega); have g0 := hB2.frozen 0; have g1 := hB2.frozen 1)
  all_goals
    have c9 := (hB2.set 0 (.slice va vn vc)).set 1 (.int .i64 t.base)
    have hH9 : Holds ((w2.setCell ⟨N + 1, 0, none⟩ (.slice va vn vc)).setCell ⟨N + 1, 1, none⟩ (.int .i64 t.base)) (fun b => N ≤ b) (ts.drop n) (.slice va vn vc) := holds_set2 hv (fun b _ ho => ⟨by omega, by omega⟩) _ _ _ _
    have hB9 : Below N w ((w2.setCell ⟨N + 1, 0, none⟩ (.slice va vn vc)).setCell ⟨N + 1, 1, none⟩ (.int .i64 t.base)) := bset (bset (bl0.trans (hb2.mono (by omega))) (by omega) _) (by omega) _
    clear hv hb2 d0 d1 hB2 g0 g1
    generalize (w2.setCell ⟨N + 1, 0, none⟩ (.slice va vn vc)).setCell ⟨N + 1, 1, none⟩ (.int .i64 t.base) = W5 at *
    have d0 : W5.cell? ⟨N + 1, 0, none⟩ = some (.slice va vn vc) := c9.cell 0
    have d1 : W5.cell? ⟨N + 1, 1, none⟩ = some (.int .i64 t.base) := c9.cell 1
    go_wp2
    all_goals exact bodyPost_ret (v := .tuple #[tv (.slice va vn vc) t.base, .int .i64 0]) (by simp [results, Try.results104, go_sem, d0, d1]) rfl ⟨_, rfl, hH9, hB9⟩

attribute [local go_sem] Oper.semAt_some

set_option maxRecDepth 100000 in
set_option maxHeartbeats 2000000 in
theorem kSize_calls (t : Ty) (ok : Nat → Prop) (sl : Value) (w : World) (hh : Holds w ok t.args sl) (hsz : t.size ≤ 900000) :
    Calls Try.prog 75 #[tv sl t.base] w fun e w' => e = .returned (.int .i64 (t.size : Int)) ∧ Below w.heap.size w w' := by
  refine (callsIn_wide (n := 9)).1 ?_
  have h1 : 1 ≤ 9 := by omega
  have hf36 : Fence.wide.fn 87 := trivial
  obtain ⟨N, hN⟩ : ∃ N, w.heap.size = N := ⟨_, rfl⟩
  have hh0 : Holds w (fun b => b < N) t.args sl := hh.mono fun b hb _ => by omega
  obtain ⟨a, cap, hsl, _⟩ := hh.shape
  generalize t.args.length = tn at hsl
  subst hsl
  refine callsIn_of_wp_marks Try.func75 rfl trivial ?_ rfl
  simp only [Try.ntmps75, List.size_toArray, List.length_cons, List.length_nil, Nat.reduceAdd, Nat.reduceSub, Array.replicate_succ, Array.replicate_zero, List.push_toArray, List.append_toArray, List.nil_append, List.cons_append]
  gi_wp2_with (gi_at_call 87; refine (within_in _ _ _ _).mono ?_; rintro e w' ⟨rfl, rfl⟩)
  obtain ⟨W0, hW0⟩ : ∃ W0, ((w.alloc (.cells #[.slice a tn cap, .int .i64 t.base] 32)).alloc (.cells #[.int .i64 0] 3)).alloc (.cells #[.slice a tn cap, .int .i64 t.base] 32) = W0 := ⟨_, rfl⟩
  have b1 : Blk W0 (N + 1) 3 #[.int .i64 0] := by rw [← hW0]; exact (Blk.new' _ (N + 1) 3 _ (by simp [hN])).alloc _
  have b2 : Blk W0 (N + 1 + 1) 32 #[.slice a tn cap, .int .i64 t.base] := by rw [← hW0]; exact Blk.new' _ (N + 1 + 1) 32 _ (by simp [hN])
  have hsz0 : W0.heap.size = N + 3 := by rw [← hW0]; simp [hN]
  have hb : Below N w W0 := by rw [← hW0]; exact (((Below.refl N w).alloc (by simp [hN]) _).alloc (by simp [hN]) _).alloc (by simp [hN]; omega) _
  rw [hW0]
  have HN : Hid (w.heap.size = N) := hN
  clear hW0 hN
  refine wpIn_rangeFunc_ownF rfl h1 (gf := 101) (lb := #[.pointer (some ⟨N + 1 + 1, 0, none⟩)]) rfl trivial (enters_of Try.func101 (by kernel_rfl) rfl)
    (within_stops w N (9 - 1) (N + 1 + 1) t (.slice a tn cap) W0 b2 hh0 hsz (by omega) hb) Kp.trans (Kp.put (by omega)) (Below.refl _ _) (fun _ => rfl)
    (fun pre W => Blk W (N + 1) 3 #[.int .i64 (pre.length : Int)] ∧ Below N w W)
    (fun _ _ _ => False)
    (OwnFrom.and (fun s A B row hs hg hr => hs.own hg (fun r e => (hr r e).2)) (ownFrom_below (by rw [HN.out]; exact Nat.le_refl _) (by omega)))
    (fun _ _ _ _ _ hs _ _ => hs)
    ⟨b1, hb⟩
    (fun x => { tmps := #[tv (.slice a tn cap) t.base, .pointer (some ⟨N, 0, none⟩), .int .i64 0, .pointer (some ⟨N + 1, 0, none⟩), .agg #[.slice a tn cap, .int .i64 t.base], .func (.func 101) #[] #[.pointer (some ⟨N + 1 + 1, 0, none⟩)], .int .i64 (x.d : Int), tv x.s x.t.base, undef, undef, undef], defers := [] }) ?assign ?body ?done ?stop
  case assign =>
    intro l x W K hK
    gi_wp2
    simpa [encI] using hK
  case body =>
    rintro l pre x W ⟨c1, hbl⟩ hlen
    have q := c1.cell 0
    have f := c1.frozen 0
    gi_wp2
    refine ⟨KeepsOthers.setCell _ _ _, Kp.set c1 (by omega) (by decide) (by decide) 0 _, ?_, bset hbl (by omega) _⟩
    have := c1.set 0 (.int .i64 ((pre.length : Int) + 1))
    simpa using this
  case done =>
    rintro D ys W hD hys ⟨c1, hbl⟩ hK
    have hyl : (ys.length : Int) = (t.size : Int) := by
      have := congrArg List.length hys
      rw [keys_length, t.within_length] at this
      omega
    rw [hyl] at c1
    have q := c1.cell 0
    gi_wp2
    refine ⟨by simp, .inl ⟨_, _, rfl, run_takeDeferred hK, ?_⟩⟩
    refine ⟨_, results_tmp rfl _ _ _, rfl, ?_⟩
    rw [HN.out]
    exact hbl.trans (belowK_b (w := W0) (by omega) W D _ _ hD hK rfl rfl)
  case stop =>
    rintro D c pre W _ _ h _
    exact h.elim

-- DEPTH

end Go.Proofs.Ytckagmagjogmnaa
