/-
  KindEach comes out true: the walk.
-/
import Derived.Test.YthcncdihgghbjaaTurn
import Derived.BigQuiet
namespace Go.Proofs.Ythcncdihgghbjaa
open Go Go.RowKit Go.Shelf

attribute [local go_sem] Oper.semAt_some

def actM (a : Option Addr) (tn cap : Nat) (tb stop : Int) (N M gk gd len ck cd q : Nat) (a8 : Option Addr) (tn8 cap8 Bk : Nat) (u9 u10 u40 u41 : Value) (u : Nat → Value) (ds : List Deferred) : Act :=
  { tmps := #[tv (.slice a tn cap) tb, .int .i64 stop, .pointer (some ⟨N, 0, none⟩), .pointer (some ⟨N + 1, 0, none⟩), .bool false, .pointer (some ⟨M, 0, none⟩), .pointer (some ⟨M + 1, 0, none⟩), .pointer (some ⟨M + 2, 0, none⟩), .pointer (some ⟨M + 2 + 1, 0, none⟩), u9, u10, undef, undef, undef, undef, undef, undef, undef, .agg #[.slice a tn cap, .int .i64 tb], .slice (some ⟨N + 1 + 1, 0, none⟩) 1 1, .bool true, .bool false, .bool false, .bool true, .bool false, .bool false, undef, .tuple #[.slice (some ⟨gk, 0, none⟩) len ck, .slice (some ⟨gd, 0, none⟩) len cd], .agg #[.slice a tn cap, .int .i64 tb], .tuple #[.slice (some ⟨gk, 0, none⟩) len ck, .slice (some ⟨gd, 0, none⟩) len cd], .slice (some ⟨gk, 0, none⟩) len ck, .slice (some ⟨gd, 0, none⟩) len cd, .int .i64 stop, .int .u64 (IntKind.u64.wrap stop), .int .u64 (q : Int), .int .i64 (q : Int), .int .i64 (1 + (q : Int)), .agg #[.slice a tn cap, .int .i64 tb], tv (.slice a8 tn8 cap8) tb, .func (.func 46) #[] #[.pointer (some ⟨Bk, 0, none⟩)], u40, u41, u 42, u 43, u 44, u 45, u 46, u 47, u 48, u 49, u 50, u 51, u 52, u 53, u 54, u 55, u 56, u 57, u 58, u 59, u 60, u 61, u 62, u 63, u 64, u 65, undef, undef, undef, undef, undef, undef, undef, undef, undef, undef, undef, undef, undef, undef, undef, undef, undef, undef, undef, undef, undef, undef, undef, undef, undef, undef, undef, undef, undef, undef, undef, undef, undef, undef, undef, undef, undef, undef, undef, undef, undef, undef, undef, undef, undef, undef, undef, undef, undef, undef, undef, undef, undef, undef, undef, undef, undef, undef, undef, undef, undef, undef, undef, undef, undef, undef, undef, undef, undef, undef, undef, undef, undef, undef, undef, undef, undef, undef, undef, undef, undef, undef, undef, undef, undef, undef, undef, undef, undef, undef, undef, undef, undef, undef, undef, undef, undef], defers := ds }

set_option maxRecDepth 100000 in
theorem over_actM (a : Option Addr) (tn cap : Nat) (tb stop : Int) (N M gk gd len ck cd q : Nat) (a8 : Option Addr) (tn8 cap8 Bk : Nat) (u9 u10 u40 u41 : Value) (u0 u : Nat → Value) (ds : List Deferred) :
    over (fun s => Nat.ble 42 s && Nat.ble s 65) u (actM a tn cap tb stop N M gk gd len ck cd q a8 tn8 cap8 Bk u9 u10 u40 u41 u0 ds) = actM a tn cap tb stop N M gk gd len ck cd q a8 tn8 cap8 Bk u9 u10 u40 u41 u ds := rfl

def actR (a : Option Addr) (tn cap : Nat) (tb stop : Int) (N M gk gd len ck cd q : Nat) (a8 : Option Addr) (tn8 cap8 Bk : Nat) (u : Nat → Value) (ds : List Deferred) : Act :=
  { tmps := #[tv (.slice a tn cap) tb, .int .i64 stop, .pointer (some ⟨N, 0, none⟩), .pointer (some ⟨N + 1, 0, none⟩), .bool false, .pointer (some ⟨M, 0, none⟩), .pointer (some ⟨M + 1, 0, none⟩), .pointer (some ⟨M + 2, 0, none⟩), .pointer (some ⟨M + 2 + 1, 0, none⟩), undef, undef, u 11, undef, undef, undef, undef, undef, undef, .agg #[.slice a tn cap, .int .i64 tb], .slice (some ⟨N + 1 + 1, 0, none⟩) 1 1, .bool true, .bool false, .bool false, .bool true, .bool false, .bool false, undef, .tuple #[.slice (some ⟨gk, 0, none⟩) len ck, .slice (some ⟨gd, 0, none⟩) len cd], .agg #[.slice a tn cap, .int .i64 tb], .tuple #[.slice (some ⟨gk, 0, none⟩) len ck, .slice (some ⟨gd, 0, none⟩) len cd], .slice (some ⟨gk, 0, none⟩) len ck, .slice (some ⟨gd, 0, none⟩) len cd, .int .i64 stop, .int .u64 (IntKind.u64.wrap stop), .int .u64 (q : Int), .int .i64 (q : Int), .int .i64 (1 + (q : Int)), .agg #[.slice a tn cap, .int .i64 tb], tv (.slice a8 tn8 cap8) tb, .func (.func 46) #[] #[.pointer (some ⟨Bk, 0, none⟩)], undef, undef, undef, undef, undef, undef, undef, undef, undef, undef, undef, undef, undef, undef, undef, undef, undef, undef, undef, undef, undef, undef, undef, undef, undef, undef, undef, undef, undef, undef, undef, undef, undef, undef, undef, u 75, u 76, u 77, u 78, u 79, u 80, undef, undef, undef, undef, undef, undef, undef, undef, undef, undef, undef, undef, undef, undef, undef, undef, undef, undef, undef, undef, undef, undef, undef, undef, undef, undef, undef, undef, undef, undef, undef, undef, undef, undef, undef, undef, undef, undef, undef, undef, undef, undef, undef, undef, undef, undef, undef, undef, undef, undef, undef, undef, undef, undef, undef, undef, undef, undef, undef, undef, undef, undef, undef, undef, undef, undef, undef, undef, undef, undef, undef, undef, undef, undef, undef, undef, undef, undef, undef, undef, undef, undef], defers := ds }
set_option maxRecDepth 100000 in
theorem over_actR (a : Option Addr) (tn cap : Nat) (tb stop : Int) (N M gk gd len ck cd q : Nat) (a8 : Option Addr) (tn8 cap8 Bk : Nat) (u0 u : Nat → Value) (ds : List Deferred) :
    over (fun s => Nat.beq s 11 || Nat.ble 75 s && Nat.ble s 80) u (actR a tn cap tb stop N M gk gd len ck cd q a8 tn8 cap8 Bk u0 ds) = actR a tn cap tb stop N M gk gd len ck cd q a8 tn8 cap8 Bk u ds := rfl

/-- What the slots hold while the bases are told. -/
def VR (T : Value) (t : Ty) (s : Nat) (w : World) (v : Value) : Prop :=
  (s = 75 ∨ s = 77 → v = T) ∧ (s = 76 ∨ s = 78 → ∃ a n c, v = tv (.slice a n c) t.base ∧ Holds w okT t.args (.slice a n c)) ∧ (s = 79 → ∃ g, v = .slice (some ⟨g, 0, none⟩) 2 2 ∧ Holds w okT [t, t] (.slice (some ⟨g, 0, none⟩) 2 2)) ∧
    (s = 80 → ∃ (g cap : Nat) (bs : List Int), v = .slice (some ⟨g, 0, none⟩) bs.length cap ∧ (∀ j z, bs[j]? = some z → w.cell? ⟨g, j, none⟩ = some (.int .i64 z)) ∧ bs.length ≤ 2000 ∧ bs.Pairwise (· < ·) ∧ ∀ z, z ∈ bs ↔ z ∈ bsOf (t.within 1))
theorem VR.mono {T : Value} {t : Ty} {s : Nat} {w w' : World} {v : Value} (h : VR T t s w v) (hb : Below w.heap.size w w') : VR T t s w' v :=
  ⟨h.1, fun e => by obtain ⟨a, n, c, h1, h2⟩ := h.2.1 e; exact ⟨a, n, c, h1, h2.bel hb⟩, fun e => by obtain ⟨g, h1, h2⟩ := h.2.2.1 e; exact ⟨g, h1, h2.bel hb⟩,
    fun e => by obtain ⟨g, cap, bs, h1, h2, h3⟩ := h.2.2.2 e; exact ⟨g, cap, bs, h1, fun j z hz => (cat hb (lt_of_cell (h2 j z hz))).trans (h2 j z hz), h3⟩⟩
theorem VR.t {T : Value} {t : Ty} {s : Nat} {w : World} (hs : s = 75 ∨ s = 77) : VR T t s w T := ⟨fun _ => rfl, by omega, by omega, by omega⟩
theorem VR.c {T : Value} {t : Ty} {s : Nat} {w : World} {a : Option Addr} {n c : Nat} (hs : s = 76 ∨ s = 78) (h : Holds w okT t.args (.slice a n c)) : VR T t s w (tv (.slice a n c) t.base) := ⟨by omega, fun _ => ⟨a, n, c, rfl, h⟩, by omega, by omega⟩

theorem Cur.drewN {W0 w : World} (h : Cur W0 w) (n : Nat) : Cur W0 (w.drewN n) := ⟨h.os, h.tape, h.output, h.size, h.block⟩
theorem mem_step {lb : List Int} {kk : Nat} {x y : Int} (hy : lb[kk]? = some y) : (decide (x ∈ lb.take kk) || y == x) = decide (x ∈ lb.take (kk + 1)) := by
  rw [List.take_add_one, hy]
  by_cases h1 : x ∈ lb.take kk
  · simp [h1]
  · by_cases h2 : y = x
    · subst h2; simp
    · have h3 : ¬ x = y := fun e => h2 e.symm
      simp [h1, h2, h3]

theorem beq_sym (x y : Int) : (x == y) = (y == x) := decide_eq_decide.2 ⟨Eq.symm, Eq.symm⟩

theorem tmod_small (x : Int) : ∃ q : Nat, (IntKind.u64.wrap x).tmod 150 = (q : Int) ∧ q < 150 := by
  have h0 : 0 ≤ IntKind.u64.wrap x := by
    simp [IntKind.wrap, IntKind.signed, IntKind.bits]
    omega
  have h1 := Int.tmod_nonneg 150 h0
  have h2 := Int.tmod_lt_of_pos (IntKind.u64.wrap x) (show (0 : Int) < 150 by omega)
  exact ⟨((IntKind.u64.wrap x).tmod 150).toNat, by omega, by omega⟩

set_option maxRecDepth 100000 in
set_option maxHeartbeats 8000000 in
theorem Eachs_calls (t : Ty) (stop : Int) (sl : Value) (w : World) (hh : Holds w okT t.args sl) :
    Calls Try.prog 7 #[tv sl t.base, .int .i64 stop] w fun e w' => e = .returned (.bool true) ∧ Below w.heap.size w w' := by
  refine (callsIn_wide (n := 9)).1 ?_
  have h1 : 1 ≤ 9 := by omega
  have hf8 : Fence.wide.fn 8 := trivial
  have hf9 : Fence.wide.fn 9 := trivial
  have hf10 : Fence.wide.fn 10 := trivial
  have hf32 : Fence.wide.fn 32 := trivial
  have hf33 : Fence.wide.fn 33 := trivial
  have hf34 : Fence.wide.fn 34 := trivial
  obtain ⟨a, cap, hsl, _⟩ := hh.shape
  generalize t.args.length = tn at hsl
  subst hsl
  obtain ⟨N, hN⟩ : ∃ N, w.heap.size = N := ⟨_, rfl⟩
  rw [hN]
  obtain ⟨r, hr⟩ : ∃ r, fewB 100 70 t = r := ⟨_, rfl⟩
  have hfew := fun W s (hW : Holds W okT [t] s) => lawFew_calls [t] okT s W (by simp) hW
  rw [show [t].all (fewB 100 70) = r by rw [← hr]; simp] at hfew
  have HR : Hid (fewB 100 70 t = r) := hr
  clear hr
  refine callsIn_of_wp_marks Try.func7 rfl trivial ?_ rfl
  simp only [Try.ntmps7, List.size_toArray, List.length_cons, List.length_nil, Nat.reduceAdd, Nat.reduceSub, Array.replicate_succ, Array.replicate_zero, List.push_toArray, List.append_toArray, List.nil_append, List.cons_append]
  gi_wp2_with fail
  generalize hw1 : (w.alloc (.cells #[.slice a tn cap, .int .i64 t.base] 24)).alloc (.cells #[.int .i64 stop] 3) = w1
  have b1 : Blk w1 N 24 #[.slice a tn cap, .int .i64 t.base] := by rw [← hw1]; exact (Blk.new' w N 24 _ hN).alloc _
  have s1 : Blk w1 (N + 1) 3 #[.int .i64 stop] := by rw [← hw1]; exact Blk.new' _ (N + 1) 3 _ (by simp [hN])
  have bl1 : Below N w w1 := by rw [← hw1]; exact ((Below.refl N w).alloc (by omega) _).alloc (by simp; omega) _
  have hh1 : Holds w1 okT t.args (.slice a tn cap) := hh.bel (by rw [hN]; exact bl1)
  have hz1 : w1.heap.size = N + 1 + 1 := by rw [← hw1]; simp [hN]
  clear hw1
  generalize hw2 : w1.alloc (.cells #[.slice a tn cap, .int .i64 t.base] 24) = w2
  have b2 : Blk w2 N 24 #[.slice a tn cap, .int .i64 t.base] := by rw [← hw2]; exact b1.alloc _
  have s2 : Blk w2 (N + 1) 3 #[.int .i64 stop] := by rw [← hw2]; exact s1.alloc _
  have bl2 : Below N w w2 := by rw [← hw2]; exact bl1.alloc (by omega) _
  have hh2 : Holds w2 okT t.args (.slice a tn cap) := by rw [← hw2]; exact hh1.alloc _
  have hf2 : Holds w2 okT [t] (.slice (some ⟨N + 1 + 1, 0, none⟩) 1 1) := by
    rw [← hw2]
    exact holds_built w1 (N + 1 + 1) hz1 [(.slice a tn cap, t)] 24 (fun p hp => by rw [List.mem_singleton.1 hp]; exact hh1) 1 rfl _ rfl
  have hz2 : N + 1 < w2.heap.size := s2.lt
  clear hw2 b1 s1 bl1 hh1 hz1
  refine (callsIn_wide.2 (hfew _ _ hf2)).mono ?_
  rintro e w3 ⟨rfl, hb3⟩
  have b3 := b2.below hb3 b2.lt
  have s3 := s2.below hb3 s2.lt
  have bl3 : Below N w w3 := bl2.trans (hb3.mono (by omega))
  have hh3 := hh2.bel hb3
  have hz3 : N + 1 < w3.heap.size := s3.lt
  clear b2 s2 bl2 hh2 hf2 hb3 hz2 hfew
  have c0 := b3.cell 0
  have c1 := b3.cell 1
  cases r
  · gi_wp2_with (gi_at_call 9; refine (callsIn_wide.2 (known_calls _)).mono ?_; rintro e w4 ⟨rfl, hb4⟩)
    exact ⟨_, results_tmp rfl _ _ _, rfl, bl3.trans (hb4.mono (by omega))⟩
  · obtain ⟨hs1, hd1⟩ := size_of_few HR.out
    gi_wp2_with fail
    refine (callsIn_wide.2 (known_calls _)).mono ?_
    rintro e w4 ⟨rfl, hb4⟩
    have b4 := b3.below hb4 b3.lt
    have s4 := s3.below hb4 s3.lt
    have bl4 : Below N w w4 := bl3.trans (hb4.mono (by omega))
    have hh4 := hh3.bel hb4
    have hz4 : N + 1 < w4.heap.size := s4.lt
    clear b3 s3 bl3 hh3 hb4 hz3 c0 c1
    have c0 := b4.cell 0
    have c1 := b4.cell 1
    obtain ⟨n4, hn4⟩ : ∃ n4, w4.heap.size = n4 := ⟨_, rfl⟩
    have hwi := refWithin_calls w N t 1 (.slice a tn cap) w4 (hh.mono fun b hb _ => by omega) (by omega) bl4 (by omega) (by omega)
    rw [show ((1 : Nat) : Int) = 1 from rfl] at hwi
    gi_wp2_with fail
    refine (callsIn_wide.2 hwi).mono ?_
    clear hwi
    rintro e w5 ⟨vk, vd, ps, rfl, hW5, hb5⟩
    have b5 := b4.below hb5 b4.lt
    have s5 := s4.below hb5 s4.lt
    have bl5 : Below N w w5 := bl4.trans (hb5.mono (by omega))
    have hh5 := hh4.bel hb5
    have hkid : Hid _ := hW5.kid
    have hty : Hid _ := hW5.ty
    have rk5 := hW5.rk
    have rd5 := hW5.rd
    have hpl : ps.length = t.size := by
      have := congrArg List.length hW5.ty
      rw [List.length_map, List.length_map, t.within_length] at this
      exact this
    have hsp := t.size_eq
    obtain ⟨gk, ck, rfl, hgk, hgkl⟩ := rk5.form (by omega)
    obtain ⟨gd, cd, rfl, hgd, hgdl⟩ := rd5.form (by omega)
    rw [hn4] at hgk hgd rk5 rd5
    clear hW5
    obtain ⟨len, hlen⟩ : ∃ len, ps.length = len := ⟨_, rfl⟩
    have hpl9 : Hid (len = ps.length) := hlen.symm
    rw [hlen] at rk5 rd5 hpl ⊢
    clear hlen
    obtain ⟨M, hM⟩ : ∃ M, w5.heap.size = M := ⟨_, rfl⟩
    have hNM : N + 1 < M := by rw [← hM]; exact s5.lt
    clear b4 s4 bl4 c0 c1
    have HPL : Hid (len = t.size) := hpl
    clear hpl hsp
    obtain ⟨w6, hw6⟩ : ∃ w6, (w5.alloc (.cells #[.slice (some ⟨gk, 0, none⟩) len ck] 22)).alloc (.cells #[.slice (some ⟨gd, 0, none⟩) len cd] 55) = w6 := ⟨_, rfl⟩
    have b6 : Blk w6 N 24 #[.slice a tn cap, .int .i64 t.base] := by rw [← hw6]; exact (b5.alloc _).alloc _
    have s6 : Blk w6 (N + 1) 3 #[.int .i64 stop] := by rw [← hw6]; exact (s5.alloc _).alloc _
    have l6 : Blk w6 M 22 #[.slice (some ⟨gk, 0, none⟩) len ck] := by rw [← hw6]; exact (Blk.new' _ M 22 _ hM).alloc _
    have d6 : Blk w6 (M + 1) 55 #[.slice (some ⟨gd, 0, none⟩) len cd] := by rw [← hw6]; exact Blk.new' _ (M + 1) 55 _ (by simp [hM])
    have bl6 : Below N w w6 := by rw [← hw6]; exact (bl5.alloc (by omega) _).alloc (by simp; omega) _
    have hh6 : Holds w6 okT t.args (.slice a tn cap) := by rw [← hw6]; exact (hh5.alloc _).alloc _
    have rk6 := by have := (rk5.alloc (.cells #[.slice (some ⟨gk, 0, none⟩) len ck] 22)).alloc (.cells #[.slice (some ⟨gd, 0, none⟩) len cd] 55); rw [hw6] at this; exact this
    have rd6 := by have := (rd5.alloc (.cells #[.slice (some ⟨gk, 0, none⟩) len ck] 22)).alloc (.cells #[.slice (some ⟨gd, 0, none⟩) len cd] 55); rw [hw6] at this; exact this
    have hz6 : w6.heap.size = M + 2 := by rw [← hw6]; simp [hM]
    have e0 := s6.cell 0
    have f0 := s6.frozen 0
    clear b5 s5 bl5 hh5 rk5 rd5 hb5
    obtain ⟨q, hq, hq2⟩ : ∃ q : Nat, (IntKind.u64.wrap stop).tmod 150 = (q : Int) ∧ q < 150 := tmod_small stop
    obtain ⟨w7, hw7⟩ : ∃ w7, ((w6.setCell ⟨N + 1, 0, none⟩ (.int .i64 (1 + (q : Int)))).alloc (.cells #[.int .i64 0] 3)).alloc (.cells #[.bool true] 4) = w7 := ⟨_, rfl⟩
    have b7 : Blk w7 N 24 #[.slice a tn cap, .int .i64 t.base] := by rw [← hw7]; exact ((b6.other (by omega) 0 _).alloc _).alloc _
    have s7 : Blk w7 (N + 1) 3 #[.int .i64 (1 + (q : Int))] := by rw [← hw7]; exact ((s6.set 0 _).alloc _).alloc _
    have l7 : Blk w7 M 22 #[.slice (some ⟨gk, 0, none⟩) len ck] := by rw [← hw7]; exact ((l6.other (by omega) 0 _).alloc _).alloc _
    have d7 : Blk w7 (M + 1) 55 #[.slice (some ⟨gd, 0, none⟩) len cd] := by rw [← hw7]; exact ((d6.other (by omega) 0 _).alloc _).alloc _
    have n7 : Blk w7 (M + 2) 3 #[.int .i64 0] := by rw [← hw7]; exact (Blk.new' _ (M + 2) 3 _ (by simp [World.setCell, hz6])).alloc _
    have o7 : Blk w7 (M + 2 + 1) 4 #[.bool true] := by rw [← hw7]; exact Blk.new' _ (M + 2 + 1) 4 _ (by simp [World.setCell, hz6])
    have bl7 : Below N w w7 := by rw [← hw7]; exact ((bset bl6 (by omega) _).alloc (by simp [World.setCell, hz6]; omega) _).alloc (by simp [World.setCell, hz6]; omega) _
    have hz7 : w7.heap.size = M + 4 := by rw [← hw7]; simp [World.setCell, hz6]
    have hh7 : Holds w7 okT t.args (.slice a tn cap) := hh.bel (by rw [hN]; exact bl7)
    have rk7 : w7.ownsRow n4 24 2 (.slice (some ⟨gk, 0, none⟩) len ck) len (pcells ps) := by
      have := ((rk6.kept (grownBy_setCell_at w6 (N + 1) 0 (.int .i64 (1 + (q : Int)))) (.inr (fun e => by simp [Value.ownBlock] at e; omega))).alloc (.cells #[.int .i64 0] 3)).alloc (.cells #[.bool true] 4)
      rw [hw7] at this
      exact this
    have rd7 : w7.ownsRow n4 3 1 (.slice (some ⟨gd, 0, none⟩) len cd) len (ints (deps (t.within 1))) := by
      have := ((rd6.kept (grownBy_setCell_at w6 (N + 1) 0 (.int .i64 (1 + (q : Int)))) (.inr (fun e => by simp [Value.ownBlock] at e; omega))).alloc (.cells #[.int .i64 0] 3)).alloc (.cells #[.bool true] 4)
      rw [hw7] at this
      exact this
    have c0 := b7.cell 0
    have c1 := b7.cell 1
    clear b6 s6 l6 d6 bl6 hh6 rk6 rd6
    gi_wp2_with (first
      | (gi_at_call 10; refine (callsIn_wide.2 (To_calls t okT _ _ hh7 (by omega))).mono ?_; rintro e w8 ⟨v8, rfl, h8, hb8⟩; have h8' := h8.t; obtain ⟨a8, cap8, hv8, h8s⟩ := h8.shape; clear h8s; generalize t.args.length = tn8 at hv8; subst hv8)
      | (gi_at_call 33; refine (callsIn_wide.2 (Each_calls t okT _ _ h8' (by omega))).mono ?_; rintro e w9 ⟨Bk, v9, rfl, hBk, h9, hb9⟩))
    rename_i Q' K hKs
    have hb79 : Below w7.heap.size w7 w9 := hb8.trans (hb9.mono hb8.size)
    have b9 := b7.below hb79 b7.lt
    have s9 := s7.below hb79 s7.lt
    have l9 := l7.below hb79 l7.lt
    have d9 := d7.below hb79 d7.lt
    have n9 := n7.below hb79 n7.lt
    have o9 := o7.below hb79 o7.lt
    have bl9 : Below N w w9 := bl7.trans (hb79.mono (by omega))
    have rk9 := row_bel rk7 hb79
    have rd9 := row_bel rd7 hb79
    have hs8 : M + 4 ≤ w8.heap.size := by rw [← hz7]; exact hb8.size
    obtain ⟨E, hE⟩ : ∃ E, w9.heap.size = E := ⟨_, rfl⟩
    have hE8 : M + 4 ≤ E := by rw [← hE]; exact Nat.le_trans hs8 hb9.size
    clear b7 s7 l7 d7 n7 o7 bl7 rk7 rd7 hw7 hb8 c0 c1 hh7 h8 h8' hb79 hz7
    have hfin : ∀ (W : World) (m : Nat), Only [M + 2, M + 2 + 1] w9 W → Blk W (M + 2) 3 #[.int .i64 (m : Int)] → Blk W (M + 2 + 1) 4 #[.bool true] → m = min (1 + q) t.size → W.heap[E]? = some (.deferred (some [])) → K (actM a tn cap t.base stop N M gk gd len ck cd q a8 tn8 cap8 Bk undef undef undef undef (fun _ => undef) [{ target := .collected E, args := #[] }]) W := by
      intro W m hO bn bo hm hD
      refine hKs _ _ ?_
      clear hKs
      have b2 := b9.only hO (by simp <;> omega)
      have c0 := b2.cell 0
      have c1 := b2.cell 1
      have hblW : Below N w W := bl9.trans (hO.below (by omega) (fun k hk => by simp at hk; omega))
      have hhW : Holds W okT t.args (.slice a tn cap) := hh.bel (by rw [hN]; exact hblW)
      refine wpIn_seq_k fun K2 hK2 => ?_
      show Code.wpIn Fence.wide 9 Try.prog (Code.region 13 _ true) _ (actR a tn cap t.base stop N M gk gd len ck cd q a8 tn8 cap8 Bk (fun _ => undef) [{ target := .collected E, args := #[] }]) W
      have hTo := fun w (hC : Below W.heap.size W w) => To_calls t okT (.slice a tn cap) w (hhW.bel hC) (by omega)
      refine region_vals 6 (fun s => Nat.beq s 11 || Nat.ble 75 s && Nat.ble s 80) (VR (tv (.slice a tn cap) t.base) t) (fun w => Below W.heap.size W w) (by kernel_rfl) (by decide) (by kernel_rfl) (by kernel_rfl) (by kernel_rfl) (fun _ _ _ _ h hb => h.mono hb) (fun _ _ h hb => h.trans (hb.mono h.size)) ((Below.refl _ _).drew) ⟨?_, ?_, ?_, ?_, ?_, ?_, trivial⟩ ?_
      · intro z w hC hk K' hK
        have hK3 := hK (tv (.slice a tn cap) t.base) w (fun s hs => by cases hs; exact VR.t (.inl rfl)) (Below.refl _ _)
        have g0 := (cat hC b2.lt).trans c0
        have g1 := (cat hC b2.lt).trans c1
        simp only [over_actR] at hK3 ⊢
        clear hK hk
        unfold actR at *
        refine want_plain rfl ?_
        go_simp
        exact hK3
      · intro z w hC hk K' hK
        have e75 : z 75 = tv (.slice a tn cap) t.base := (hk 75 (by decide +kernel) rfl).1 (.inl rfl)
        have hcall := hTo w hC
        have hK3 := fun (w2 : World) (ya : Option Addr) (yn yc : Nat) (hv2 : Holds w2 okT t.args (.slice ya yn yc)) (hb2 : Below w.heap.size w w2) => hK (tv (.slice ya yn yc) t.base) w2 (fun s hs => by cases hs; exact VR.c (.inl rfl) hv2) hb2
        simp only [over_actR] at hK3 ⊢
        clear hK hk
        unfold actR at *
        simp only [e75] at hK3 ⊢
        refine want_plain rfl ?_
        go_simp
        refine (callsIn_wide.2 hcall).mono ?_
        rintro e w2 ⟨v2, rfl, hv2, hb2⟩
        obtain ⟨ya, yc, rfl, _⟩ := hv2.shape
        exact hK3 w2 ya _ yc hv2.t hb2
      · intro z w hC hk K' hK
        have hK3 := hK (tv (.slice a tn cap) t.base) w (fun s hs => by cases hs; exact VR.t (.inr rfl)) (Below.refl _ _)
        have g0 := (cat hC b2.lt).trans c0
        have g1 := (cat hC b2.lt).trans c1
        simp only [over_actR] at hK3 ⊢
        clear hK hk
        unfold actR at *
        refine want_plain rfl ?_
        go_simp
        exact hK3
      · intro z w hC hk K' hK
        have e77 : z 77 = tv (.slice a tn cap) t.base := (hk 77 (by decide +kernel) rfl).1 (.inr rfl)
        have hcall := hTo w hC
        have hK3 := fun (w2 : World) (ya : Option Addr) (yn yc : Nat) (hv2 : Holds w2 okT t.args (.slice ya yn yc)) (hb2 : Below w.heap.size w w2) => hK (tv (.slice ya yn yc) t.base) w2 (fun s hs => by cases hs; exact VR.c (.inr rfl) hv2) hb2
        simp only [over_actR] at hK3 ⊢
        clear hK hk
        unfold actR at *
        simp only [e77] at hK3 ⊢
        refine want_plain rfl ?_
        go_simp
        refine (callsIn_wide.2 hcall).mono ?_
        rintro e w2 ⟨v2, rfl, hv2, hb2⟩
        obtain ⟨ya, yc, rfl, _⟩ := hv2.shape
        exact hK3 w2 ya _ yc hv2.t hb2
      · intro z w hC hk K' hK
        obtain ⟨xa, xn, xc, e76, h76⟩ := (hk 76 (by decide +kernel) rfl).2.1 (.inl rfl)
        obtain ⟨ya, yn, yc, e78, h78⟩ := (hk 78 (by decide +kernel) rfl).2.1 (.inr rfl)
        have hK3 := hK (.slice (some ⟨w.heap.size, 0, none⟩) 2 2) (w.alloc (.cells #[.slice xa xn xc, .int .i64 t.base, .slice ya yn yc, .int .i64 t.base] 29)) (fun s hs => by
          cases hs
          exact ⟨by omega, by omega, fun _ => ⟨w.heap.size, rfl, holds_built w w.heap.size rfl [(.slice xa xn xc, t), (.slice ya yn yc, t)] 29 (fun p hp => by
            simp at hp
            rcases hp with rfl | rfl
            · exact h76
            · exact h78) 2 rfl _ rfl⟩, by omega⟩) (bel_alloc' w _)
        simp only [over_actR] at hK3 ⊢
        clear hK hk
        unfold actR at *
        simp only [e76, e78] at hK3 ⊢
        refine want_plain rfl ?_
        go_simp
        exact hK3
      · intro z w hC hk K' hK
        obtain ⟨g, e79, h79⟩ := (hk 79 (by decide +kernel) rfl).2.2.1 rfl
        have hcall := Bases_calls t g okT w h79 (by omega)
        have hK3 := fun (w2 : World) (g cap : Nat) (bs : List Int) (h1 : ∀ j z, bs[j]? = some z → w2.cell? ⟨g, j, none⟩ = some (.int .i64 z)) (h2 : bs.length ≤ 2000) (h3 : bs.Pairwise (· < ·)) (h4 : ∀ z, z ∈ bs ↔ z ∈ bsOf (t.within 1)) (hb2 : Below w.heap.size w w2) => hK (.slice (some ⟨g, 0, none⟩) bs.length cap) w2 (fun s hs => by cases hs; exact ⟨by omega, by omega, by omega, fun _ => ⟨g, cap, bs, rfl, h1, h2, h3, h4⟩⟩) hb2
        simp only [over_actR] at hK3 ⊢
        clear hK hk
        unfold actR at *
        simp only [e79] at hK3 ⊢
        refine want_plain rfl ?_
        go_simp
        refine (callsIn_wide.2 hcall).mono ?_
        rintro e w2 ⟨g, cap, bs, rfl, h1, h2, h3, h4, h5⟩
        exact hK3 w2 g cap bs h1 h2 h3 h4 h5
      · intro o ho z V hC hv K' hK
        cases ho
        obtain ⟨gb, cb, bs, e80, hbs, hbl, hbp, hbm⟩ := (hv 80 (by decide +kernel)).2.2.2 rfl
        have hK3 := fun a' w' h => hK a' w' (wpAnyIn_done (by decide +kernel) h 0)
        clear hK hv
        simp only [over_actR]
        unfold actR at *
        simp only [e80]
        refine want_plain rfl ?_
        go_simp
        refine hK3 _ _ (hK2 _ _ (wpIn_wide.2 ?_))
        clear hK3 hK2
        obtain ⟨lb, hlb⟩ : ∃ lb, bsOf (t.within 1) = lb := ⟨_, rfl⟩
        rw [hlb] at hbm
        have hlbl : Hid (lb.length = len) := by show _ = _; rw [← hlb, bsOf, List.length_map, t.within_length]; exact HPL.out.symm
        have lW := l9.only hO (by simp <;> omega)
        have sW := s9.only hO (by simp <;> omega)
        have l0 := (lW.below hC lW.lt).cell 0
        have n0 := (bn.below hC bn.lt).cell 0
        have o0 := (bo.below hC bo.lt).cell 0
        have s0 := (sW.below hC sW.lt).cell 0
        have hDV : V.heap[E]? = some (.deferred (some [])) := (hC.block E (Array.getElem?_eq_some_iff.1 hD).1).trans hD
        have hblV : Below N w V := hblW.trans (hC.mono (by have := hblW.size; omega))
        have hlc : Hid (∀ j x, lb[j]? = some x → V.cell? ⟨gk, j * 2 + 1, none⟩ = some (.int .i64 x)) := fun j x hj => by
          have hps2 : bsOf (t.within 1) = ps.map (fun p => p.2.base) := by
            have := congrArg (List.map Ty.base) hty.out
            rw [List.map_map, List.map_map] at this
            exact this.symm
          rw [← hlb, hps2, List.getElem?_map] at hj
          obtain ⟨p, hp, rfl⟩ := Option.map_eq_some_iff.1 hj
          have hlt : j < len := by rw [hpl9.out] ; exact (List.getElem?_eq_some_iff.1 hp).1
          have hgkl9 : gk < w9.heap.size := (rk9.lt gk rfl).2
          have h1 : V.heap[gk]? = w9.heap[gk]? := (hC.block gk (Nat.lt_of_lt_of_le hgkl9 hO.size)).trans (hO.block gk hgkl9 (by simp; omega))
          rw [World.cell?_of_block (w := w9) (a := ⟨gk, j * 2 + 1, none⟩) h1, World.ownsRow.cellAt rk9 _ (by omega), (pcells_get ps j p hp).2]
        have hbc : Hid _ := hbs
        have HBM : Hid _ := hbm
        have HBP : Hid _ := hbp
        have HM : Hid (m = min (1 + q) t.size) := hm
        have hlen1 : len ≤ 100 := by have := HPL.out; omega
        clear hlb hbs hbm hbp hm lW sW bn bo hC hD hblW hhW hTo c0 c1 b2 hO
        generalize z 75 = z75 at *
        generalize z 76 = z76 at *
        generalize z 77 = z77 at *
        generalize z 78 = z78 at *
        generalize z 79 = z79 at *
        obtain ⟨nb, hnb⟩ : ∃ nb, bs.length = nb := ⟨_, rfl⟩
        have HNB : Hid (bs.length = nb) := hnb
        rw [hnb] at hbl ⊢
        clear hnb e80
        go_wp2
        go_loopw [12] (fun i wr => ∃ j : Nat, j ≤ nb ∧ i = .int .i64 j ∧ Cur V wr) (fun i _ => nb - (intOf i).toNat)
        case atStart => exact ⟨0, Nat.zero_le _, rfl, Cur.refl V⟩
        case round =>
          obtain ⟨j, hj, rfl, hcur⟩ := hrel
          by_cases hlt : j < nb
          · obtain ⟨x, hx⟩ : ∃ x, bs[j]? = some x := ⟨_, List.getElem?_eq_getElem (by rw [HNB.out]; exact hlt)⟩
            have gx0 := hbc.out j x hx
            have y1 : (0 : Int) ≤ (j : Int) := by omega
            have y2 : (j : Int) < (nb : Int) := by omega
            have z1 : decide ((j : Int) < (nb : Int)) = true := by simp; omega
            have z2 : decide (j < nb) = true := by simp; omega
            have hin : Hid (x ∈ lb) := (HBM.out x).1 (List.mem_of_getElem? hx)
            have HX : Hid _ := hx
            clear hx
            go_wp2
            go_loopw [13, 14] (fun b k wr2 => ∃ (kk : Nat) (bb : Bool), kk ≤ len ∧ k = .int .i64 kk ∧ b = .bool bb ∧ Hid (bb = decide (x ∈ lb.take kk)) ∧ Cur V wr2) (fun _ k _ => len - (intOf k).toNat)
            case atStart => exact ⟨0, false, Nat.zero_le _, rfl, rfl, by show _ = _; simp, hcur⟩
            case round =>
              obtain ⟨kk, bb, hkk, rfl, rfl, HB, hcur2⟩ := hrel
              have l1 := hcur2.cell l0
              have gx := hcur2.cell gx0
              by_cases hlt2 : kk < len
              · obtain ⟨y, hy⟩ : ∃ y, lb[kk]? = some y := ⟨_, List.getElem?_eq_getElem (by rw [hlbl.out]; exact hlt2)⟩
                have gy := hcur2.cell (hlc.out kk y hy)
                have y3 : (0 : Int) ≤ (kk : Int) := by omega
                have y4 : (kk : Int) < (len : Int) := by omega
                have z3 : decide ((kk : Int) < (len : Int)) = true := by simp; omega
                have z4 : decide (kk < len) = true := by simp; omega
                have HB2 : Hid ((bb || y == x) = decide (x ∈ lb.take (kk + 1))) := by
                  show _ = _
                  rw [HB.out]
                  exact mem_step hy
                clear HB hy
                cases bb
                · obtain ⟨e, he⟩ : ∃ e, (y == x) = e := ⟨_, rfl⟩
                  have he2 : decide (y = x) = e := by rw [← he]; rfl
                  rw [he] at HB2
                  go_wp2
                  go_quiet (fail)
                  go_wp2
                  go_roundw
                  case rel => exact ⟨kk + 1, e, by omega, by go_num, rfl, by show _ = _; rw [← HB2.out]; rfl, hcur2.drewN nq⟩
                  case measure => simp [intOf]; omega
                · go_wp2
                  go_quiet (fail)
                  go_wp2
                  go_roundw
                  case rel => exact ⟨kk + 1, true, by omega, by go_num, rfl, by show _ = _; rw [← HB2.out]; rfl, hcur2.drewN nq⟩
                  case measure => simp [intOf]; omega
              · obtain rfl : kk = len := by omega
                obtain rfl : bb = true := by rw [HB.out, List.take_of_length_le (by rw [hlbl.out]; exact Nat.le_refl _)]; exact decide_eq_true hin.out
                by_cases hj0 : j = 0
                · subst hj0
                  go_wp2
                  go_quiet (fail)
                  go_wp2
                  go_roundw
                  case rel => exact ⟨0 + 1, by omega, by go_num, hcur2.drewN nq⟩
                  case measure => simp [intOf]; omega
                · obtain ⟨i, rfl⟩ : ∃ i, j = i + 1 := ⟨j - 1, by omega⟩
                  obtain ⟨x', hx'⟩ : ∃ x', bs[i]? = some x' := ⟨_, List.getElem?_eq_getElem (by rw [HNB.out]; omega)⟩
                  have gx1 := hcur2.cell (hbc.out i x' hx')
                  have hlt3 : x' < x := by
                    obtain ⟨h1, h2⟩ := List.getElem?_eq_some_iff.1 hx'
                    obtain ⟨h3, h4⟩ := List.getElem?_eq_some_iff.1 HX.out
                    rw [← h2, ← h4]
                    exact List.pairwise_iff_getElem.1 HBP.out i (i + 1) h1 h3 (by omega)
                  have w1 : decide (x ≤ x') = false := by simp; omega
                  have w2 : decide ((0 : Int) < ((i + 1 : Nat) : Int)) = true := by simp <;> omega
                  have w3 : decide ((0 : Int) < (i : Int) + 1) = true := by simp <;> omega
                  have w4 : (0 : Int) ≤ (i : Int) := by omega
                  have w5 : (i : Int) < (nb : Int) := by omega
                  have w6 : ((i + 1 : Nat) : Int) - 1 = (i : Int) := by omega
                  clear hx'
                  go_wp2
                  go_quiet (fail)
                  go_wp2
                  go_roundw
                  case rel => exact ⟨i + 1 + 1, by omega, by go_num, hcur2.drewN nq⟩
                  case measure => simp [intOf]; omega
          · obtain rfl : j = nb := by omega
            have z1 : decide ((j : Int) < (j : Int)) = false := by simp
            go_wp2
            go_loopw [15] (fun i wr2 => ∃ k : Nat, k ≤ len ∧ i = .int .i64 k ∧ Cur V wr2) (fun i _ => len - (intOf i).toNat)
            case atStart => exact ⟨0, Nat.zero_le _, rfl, hcur⟩
            case round =>
              obtain ⟨k, hk, rfl, hcur3⟩ := hrel
              have l1 := hcur3.cell l0
              by_cases hlt3 : k < len
              · obtain ⟨y, hy⟩ : ∃ y, lb[k]? = some y := ⟨_, List.getElem?_eq_getElem (by rw [hlbl.out]; exact hlt3)⟩
                have gy0 := hlc.out k y hy
                have y3 : (0 : Int) ≤ (k : Int) := by omega
                have y4 : (k : Int) < (len : Int) := by omega
                have z3 : decide ((k : Int) < (len : Int)) = true := by simp; omega
                have z4 : decide (k < len) = true := by simp; omega
                have hin : Hid (y ∈ bs) := (HBM.out y).2 (List.mem_of_getElem? hy)
                clear hy
                go_wp2
                go_loopw [16, 17] (fun b i wr2 => ∃ (ii : Nat) (bb : Bool), ii ≤ j ∧ i = .int .i64 ii ∧ b = .bool bb ∧ Hid (bb = decide (y ∈ bs.take ii)) ∧ Cur V wr2) (fun _ i _ => j - (intOf i).toNat)
                case atStart => exact ⟨0, false, Nat.zero_le _, rfl, rfl, by show _ = _; simp, hcur3⟩
                case round =>
                  obtain ⟨ii, bb, hii, rfl, rfl, HB, hcur2⟩ := hrel
                  have l2 := hcur2.cell l0
                  have gy := hcur2.cell gy0
                  by_cases hlt2 : ii < j
                  · obtain ⟨x, hx⟩ : ∃ x, bs[ii]? = some x := ⟨_, List.getElem?_eq_getElem (by rw [HNB.out]; exact hlt2)⟩
                    have gx := hcur2.cell (hbc.out ii x hx)
                    have y5 : (0 : Int) ≤ (ii : Int) := by omega
                    have y6 : (ii : Int) < (j : Int) := by omega
                    have z5 : decide ((ii : Int) < (j : Int)) = true := by simp; omega
                    have z6 : decide (ii < j) = true := by simp; omega
                    have HB2 : Hid ((bb || x == y) = decide (y ∈ bs.take (ii + 1))) := by
                      show _ = _
                      rw [HB.out]
                      exact mem_step hx
                    clear HB hx
                    cases bb
                    · obtain ⟨e, he⟩ : ∃ e, (y == x) = e := ⟨_, rfl⟩
                      have he2 : decide (y = x) = e := by rw [← he]; rfl
                      have he3 : (x == y) = e := by rw [← he]; exact beq_sym x y
                      rw [he3] at HB2
                      clear he3
                      go_wp2
                      go_quiet (fail)
                      go_wp2
                      go_roundw
                      case rel => exact ⟨ii + 1, e, by omega, by go_num, rfl, by show _ = _; rw [← HB2.out]; rfl, hcur2.drewN nq⟩
                      case measure => simp [intOf]; omega
                    · go_wp2
                      go_quiet (fail)
                      go_wp2
                      go_roundw
                      case rel => exact ⟨ii + 1, true, by omega, by go_num, rfl, by show _ = _; rw [← HB2.out]; rfl, hcur2.drewN nq⟩
                      case measure => simp [intOf]; omega
                  · obtain rfl : ii = j := by omega
                    obtain rfl : bb = true := by rw [HB.out, List.take_of_length_le (by rw [HNB.out]; exact Nat.le_refl _)]; exact decide_eq_true hin.out
                    go_wp2
                    go_roundw
                    case rel => exact ⟨k + 1, by omega, by go_num, hcur2⟩
                    case measure => simp [intOf]; omega
              · obtain rfl : k = len := by omega
                have z3 : decide ((k : Int) < (k : Int)) = false := by simp
                have hmm : ((m : Int) == min (1 + (q : Int)) (k : Int)) = true := by
                  have h1 := HM.out
                  have h2 := HPL.out
                  rw [beq_iff_eq]
                  omega
                go_wp2_with (go_at_call 9; refine (known_calls _).mono ?_; rintro e v9' ⟨rfl, hb9'⟩; have hcur4 := hcur3.then hb9'; have l2 := hcur4.cell l0; have n2 := hcur4.cell n0; have o2 := hcur4.cell o0; have s2 := hcur4.cell s0)
                have hE9 : v9'.heap[E]? = some (.deferred (some [])) := (Below.block hcur4 E (Array.getElem?_eq_some_iff.1 hDV).1).trans hDV
                refine ⟨by simp, .inl ⟨_, _, rfl, run_takeDeferred hE9, ?_⟩⟩
                exact ⟨_, results_tmp rfl _ _ _, rfl, (hblV.trans (Below.mono hcur4 (by have := hblV.size; omega))).trans (belowK_b (w := w) (by omega) v9' E _ _ (by omega) hE9 rfl rfl)⟩
    refine range_enter rfl h1 (gf := 46) (lb := #[.pointer (some ⟨Bk, 0, none⟩)]) rfl trivial (enters_of Try.func46 (by kernel_rfl) rfl) ?_
    intro fn L hfn hL
    rw [hE] at hL ⊢
    have hws : ∀ k, k < t.size → ∃ dk uk p, (t.within 1)[k]? = some (dk, uk) ∧ ps[k]? = some p ∧ p.2 = uk := fun k hk => by
      obtain ⟨x, hx⟩ : ∃ x, (t.within 1)[k]? = some x := ⟨_, List.getElem?_eq_getElem (by rw [t.within_length]; exact hk)⟩
      have h2 : (ps.map (·.2))[k]? = some x.2 := by rw [hty.out, List.getElem?_map, hx]; rfl
      rw [List.getElem?_map] at h2
      obtain ⟨p, hp, e⟩ := Option.map_eq_some_iff.1 h2
      exact ⟨x.1, x.2, p, hx, hp, e⟩
    have hY : ∀ m pre (d : Nat) s u W, JL w9 M E q (t.within 1) L pre W → pre.length < t.size → u.size ≤ 1000000 → Holds W okT u.args s → E + 2 ≤ W.heap.size → YieldAt Fence.wide m Try.prog (E + 1) #[.int .i64 (d : Int), tv s u.base] W fun e W' =>
        (e = .returned (.bool true) ∧ JL w9 M E q (t.within 1) L (pre ++ [(d, u)]) W' ∧ KpP (fun b => w8.heap.size ≤ b ∧ b < E) W W' ∧ KeepsFrom (E + 2) W W') ∨ (e = .returned (.bool false) ∧ JxL w9 M E q (t.within 1) L (pre ++ [(d, u)]) W' ∧ KeepsFrom (E + 2) W W') := by
      rintro m pre d s u W ⟨⟨hO, bn, bo, hpre, hlt⟩, hl, hD⟩ hps hus hsh hEW
      obtain ⟨sa, sc, hs, _⟩ := hsh.shape
      generalize u.args.length = sn at hs
      subst hs
      refine yield_round hL hfn hl rfl ?_
      clear hL hfin hKs
      gi_wp2
      obtain ⟨Bx, hBx⟩ : ∃ Bx, W.heap.size = Bx := ⟨_, rfl⟩
      rw [hBx]
      have hla : (W.alloc (.cells #[.slice sa sn sc, .int .i64 u.base] 29)).heap[E + 1]? = some (.loop (L .ready none)) := (Below.heap_alloc _ _ _ (Array.getElem?_eq_some_iff.1 hl).1).trans hl
      refine ⟨hla, ?_⟩
      obtain ⟨W2, hW2⟩ : ∃ W2, (W.alloc (.cells #[.slice sa sn sc, .int .i64 u.base] 29)).putObj (E + 1) (.loop (L .busy none)) = W2 := ⟨_, rfl⟩
      have bx2 : Blk W2 Bx 29 #[.slice sa sn sc, .int .i64 u.base] := by rw [← hW2]; exact (Blk.new' W Bx 29 _ hBx).put _ hla rfl
      have hO2 : Only [M + 2, M + 2 + 1, E + 1] W W2 := by rw [← hW2]; exact ((Only.refl _ W).alloc _).put (by simp) _
      have hbN : Below N w9 W := hO.below (by omega) (fun k hk => by simp at hk; omega)
      have hsh2 : Holds W2 okT u.args (.slice sa sn sc) := by
        rw [← hW2]
        exact (hsh.alloc _).put hla rfl _
      have hlb : W2.heap[E + 1]? = some (.loop (L .busy none)) := by rw [← hW2]; exact World.putObj_heap_same (Array.getElem?_eq_some_iff.1 hla).1
      have bn2 := bn.put2 hW2 hla
      have bo2 := bo.put2 hW2 hla
      have bs2 := (s9.only hO (by simp <;> omega)).put2 hW2 hla
      have bk2 := (l9.only hO (by simp <;> omega)).put2 hW2 hla
      have bd2 := (d9.only hO (by simp <;> omega)).put2 hW2 hla
      have hbN2 : Below N w W2 := (bl9.trans hbN).trans (hO2.below (by have := hO.size; omega) (fun k hk => by simp at hk; omega))
      have hN2 : N ≤ W2.heap.size := by have := bs2.lt; omega
      obtain ⟨dk', uk, p, hws1, hpk, rfl⟩ := hws pre.length hps
      obtain ⟨k, hk⟩ : ∃ k, pre.length = k := ⟨_, rfl⟩
      have hkp : Hid (pre.length = k) := hk
      have hkk := hkid.out p (List.mem_of_getElem? hpk)
      obtain ⟨pa, pc, hp1, _⟩ := hkk.shape
      generalize p.2.args.length = pn at hp1
      rw [hp1] at hkk
      have cK := pcells_get ps pre.length p hpk
      have cells_k := World.ownsRow.cellAt rk9
      have cells_d := World.ownsRow.cellAt rd9
      have hklen : k < len := by rw [HPL.out, ← hk]; exact hps
      rw [hk] at cK bn bn2
      have hgkl9 : gk < w9.heap.size := (rk9.lt gk rfl).2
      have hgdl9 : gd < w9.heap.size := (rd9.lt gd rfl).2
      have hW29 : w9.heap.size ≤ W2.heap.size := Nat.le_trans hO.size hO2.size
      have hgk2 : gk < W2.heap.size := by omega
      have hgd2 : gd < W2.heap.size := by omega
      have hsame : ∀ g, g < w9.heap.size → g ≠ M + 2 → g ≠ M + 2 + 1 → W2.heap[g]? = w9.heap[g]? := fun g hg h1 h2 => (hO2.block g (Nat.lt_of_lt_of_le hg hO.size) (by simp; omega)).trans (hO.block g hg (by simp; omega))
      have cK0 : W2.cell? ⟨gk, k * 2, none⟩ = some (.slice pa pn pc) := by
        rw [World.cell?_of_block (w := w9) (a := ⟨gk, k * 2, none⟩) (hsame gk hgkl9 (by omega) (by omega)), cells_k _ (by omega), cK.1, hp1]
      have cK1 : W2.cell? ⟨gk, k * 2 + 1, none⟩ = some (.int .i64 p.2.base) := by
        rw [World.cell?_of_block (w := w9) (a := ⟨gk, k * 2 + 1, none⟩) (hsame gk hgkl9 (by omega) (by omega)), cells_k _ (by omega), cK.2]
      obtain ⟨dk, hdk⟩ : ∃ dk : Int, (dk' : Int) = dk := ⟨_, rfl⟩
      have cD : W2.cell? ⟨gd, k, none⟩ = some (.int .i64 dk) := by
        rw [World.cell?_of_block (w := w9) (a := ⟨gd, k, none⟩) (hsame gd hgdl9 (by omega) (by omega)), cells_d _ (by omega), ints, List.getElem?_map, deps, List.getElem?_map, ← hk, hws1, ← hdk]
        rfl
      obtain ⟨r, hr⟩ : ∃ r, u.same p.2 = r := ⟨_, rfl⟩
      have hrr : Hid (u.same p.2 = r) := hr
      have hgood : Hid (((d : Int) == dk && r) = true → pre ++ [(d, u)] <+: t.within 1) := fun h => by
        rw [Bool.and_eq_true] at h
        refine (prefix_snoc hpre hws1).2 ?_
        have h2 := (u.same_iff p.2).1 (hr.trans h.2)
        have h3 : (d : Int) = dk := by simpa using h.1
        rw [h2, show d = dk' by omega]
      have hbad : Hid (((d : Int) == dk && r) = false → ¬ pre ++ [(d, u)] <+: t.within 1) := fun h hp => by
        have h1 := (prefix_snoc hpre hws1).1 hp
        cases h1
        rw [← hr, p.2.same_self, hdk] at h
        simp at h
      obtain ⟨c, hc⟩ : ∃ c, ((d : Int) == dk) = c := ⟨_, rfl⟩
      have hc1 : decide ((d : Int) = dk) = c := by rw [← hc]; rfl
      have hkb : k ≤ 100 := by have := HPL.out; omega
      have y1 : (0 : Int) ≤ (k : Int) := by omega
      have y2 : (k : Int) < (len : Int) := by omega
      have z1 : decide ((k : Int) < (len : Int)) = true := by simp; omega
      have z2 : decide (k < len) = true := by simp; omega
      have hc2 := hc
      rw [hW2]
      generalize hub : p.2 = uk at *
      clear hr hk hdk hws1 hpk cK cells_k cells_d hws hty hW2 hla hsh
      refine wpIn_block (wpIn_seq_k fun K2 hK2 => ?_)
      show Code.wpIn (Fence.wide.inRound (E + 1)) m Try.prog (Code.region 10 _ true) _ (actM a tn cap t.base stop N M gk gd len ck cd q a8 tn8 cap8 Bk (.int .i64 (d : Int)) (.pointer (some ⟨Bx, 0, none⟩)) (.int .i64 (d : Int)) (tv (.slice sa sn sc) u.base) (fun _ => undef) []) W2
      cases c
      · clear hc
        refine region_vals 24 (fun s => Nat.ble 42 s && Nat.ble s 65) (VL (valsL gk gd len ck cd k d dk (tv (.slice sa sn sc) u.base) (tv (.slice pa pn pc) uk.base) false r) (fun _ v => v = undef)) (fun w => Below W2.heap.size W2 w) (by kernel_rfl) (by decide) (by kernel_rfl) (by kernel_rfl) (by kernel_rfl) (fun _ _ _ _ h hb => h.mono (fun _ _ _ hv _ => hv) hb) (fun _ _ h hb => h.trans (hb.mono h.size)) ((Below.refl _ _).drew) ⟨?_, ?_, ?_, ?_, ?_, ?_, ?_, ?_, ?_, ?_, ?_, ?_, ?_, ?_, ?_, ?_, ?_, ?_, ?_, ?_, ?_, ?_, ?_, ?_, trivial⟩ ?_
        · intro z w hC hk K' hK
          have hK3 := hK (.bool true) w (fun s hs => by cases hs; exact VL.mk (by decide)) (Below.refl _ _)
          have g8 := (cat hC bo2.lt).trans (bo2.cell 0)
          simp only [over_actM] at hK3 ⊢
          clear hK hk
          unfold actM at *
          refine want_plain rfl ?_
          go_simp
          exact hK3
        · intro z w hC hk K' hK
          have e42 : z 42 = .bool true := (hk 42 (by decide +kernel) rfl).of (by decide)
          have hK3 := hK (.bool true) w (fun s hs => by cases hs; exact VL.mk (by decide)) (Below.refl _ _)
          simp only [over_actM] at hK3 ⊢
          clear hK hk
          unfold actM at *
          simp only [e42] at hK3 ⊢
          refine want_plain rfl ?_
          go_simp
          exact hK3
        · intro z w hC hk K' hK
          have e43 : z 43 = .bool true := (hk 43 (by decide +kernel) rfl).of (by decide)
          have hK3 := hK (.int .i64 (k : Int)) w (fun s hs => by cases hs; exact VL.mk (by decide)) (Below.refl _ _)
          have g7 := (cat hC bn2.lt).trans (bn2.cell 0)
          simp only [over_actM] at hK3 ⊢
          clear hK hk
          unfold actM at *
          simp only [e43] at hK3 ⊢
          refine want_yes rfl rfl ?_
          go_simp
          exact hK3
        · intro z w hC hk K' hK
          have e43 : z 43 = .bool true := (hk 43 (by decide +kernel) rfl).of (by decide)
          have hK3 := hK (.slice (some ⟨gk, 0, none⟩) len ck) w (fun s hs => by cases hs; exact VL.mk (by decide)) (Below.refl _ _)
          have g5 := (cat hC bk2.lt).trans (bk2.cell 0)
          simp only [over_actM] at hK3 ⊢
          clear hK hk
          unfold actM at *
          simp only [e43] at hK3 ⊢
          refine want_yes rfl rfl ?_
          go_simp
          exact hK3
        · intro z w hC hk K' hK
          have e43 : z 43 = .bool true := (hk 43 (by decide +kernel) rfl).of (by decide)
          have e45 : z 45 = .slice (some ⟨gk, 0, none⟩) len ck := (hk 45 (by decide +kernel) rfl).of (by decide)
          have hK3 := hK (.int .i64 (len : Int)) w (fun s hs => by cases hs; exact VL.mk (by decide)) (Below.refl _ _)
          simp only [over_actM] at hK3 ⊢
          clear hK hk
          unfold actM at *
          simp only [e43, e45] at hK3 ⊢
          refine want_yes rfl rfl ?_
          go_simp
          exact hK3
        · intro z w hC hk K' hK
          have e43 : z 43 = .bool true := (hk 43 (by decide +kernel) rfl).of (by decide)
          have e44 : z 44 = .int .i64 (k : Int) := (hk 44 (by decide +kernel) rfl).of (by decide)
          have e46 : z 46 = .int .i64 (len : Int) := (hk 46 (by decide +kernel) rfl).of (by decide)
          have hK3 := hK (.bool true) w (fun s hs => by cases hs; exact VL.mk (by decide)) (Below.refl _ _)
          simp only [over_actM] at hK3 ⊢
          clear hK hk
          unfold actM at *
          simp only [e43, e44, e46] at hK3 ⊢
          refine want_yes rfl rfl ?_
          go_simp
          exact hK3
        · intro z w hC hk K' hK
          have e43 : z 43 = .bool true := (hk 43 (by decide +kernel) rfl).of (by decide)
          have e47 : z 47 = .bool true := (hk 47 (by decide +kernel) rfl).of (by decide)
          have hK3 := hK (.bool true) w (fun s hs => by cases hs; exact VL.mk (by decide)) (Below.refl _ _)
          simp only [over_actM] at hK3 ⊢
          clear hK hk
          unfold actM at *
          simp only [e43, e47] at hK3 ⊢
          refine want_plain rfl ?_
          go_simp
          exact hK3
        · intro z w hC hk K' hK
          have e48 : z 48 = .bool true := (hk 48 (by decide +kernel) rfl).of (by decide)
          have hK3 := hK (.bool true) w (fun s hs => by cases hs; exact VL.mk (by decide)) (Below.refl _ _)
          simp only [over_actM] at hK3 ⊢
          clear hK hk
          unfold actM at *
          simp only [e48] at hK3 ⊢
          refine want_plain rfl ?_
          go_simp
          exact hK3
        · intro z w hC hk K' hK
          have e49 : z 49 = .bool true := (hk 49 (by decide +kernel) rfl).of (by decide)
          have hK3 := hK (.int .i64 (d : Int)) w (fun s hs => by cases hs; exact VL.mk (by decide)) (Below.refl _ _)
          simp only [over_actM] at hK3 ⊢
          clear hK hk
          unfold actM at *
          simp only [e49] at hK3 ⊢
          refine want_yes rfl rfl ?_
          go_simp
          exact hK3
        · intro z w hC hk K' hK
          have e49 : z 49 = .bool true := (hk 49 (by decide +kernel) rfl).of (by decide)
          have hK3 := hK (.slice (some ⟨gd, 0, none⟩) len cd) w (fun s hs => by cases hs; exact VL.mk (by decide)) (Below.refl _ _)
          have g6 := (cat hC bd2.lt).trans (bd2.cell 0)
          simp only [over_actM] at hK3 ⊢
          clear hK hk
          unfold actM at *
          simp only [e49] at hK3 ⊢
          refine want_yes rfl rfl ?_
          go_simp
          exact hK3
        · intro z w hC hk K' hK
          have e49 : z 49 = .bool true := (hk 49 (by decide +kernel) rfl).of (by decide)
          have hK3 := hK (.int .i64 (k : Int)) w (fun s hs => by cases hs; exact VL.mk (by decide)) (Below.refl _ _)
          have g7 := (cat hC bn2.lt).trans (bn2.cell 0)
          simp only [over_actM] at hK3 ⊢
          clear hK hk
          unfold actM at *
          simp only [e49] at hK3 ⊢
          refine want_yes rfl rfl ?_
          go_simp
          exact hK3
        · intro z w hC hk K' hK
          have e49 : z 49 = .bool true := (hk 49 (by decide +kernel) rfl).of (by decide)
          have e51 : z 51 = .slice (some ⟨gd, 0, none⟩) len cd := (hk 51 (by decide +kernel) rfl).of (by decide)
          have e52 : z 52 = .int .i64 (k : Int) := (hk 52 (by decide +kernel) rfl).of (by decide)
          have hK3 := hK (.pointer (some ⟨gd, k, none⟩)) w (fun s hs => by cases hs; exact VL.mk (by decide)) (Below.refl _ _)
          simp only [over_actM] at hK3 ⊢
          clear hK hk
          unfold actM at *
          simp only [e49, e51, e52] at hK3 ⊢
          refine want_yes rfl rfl ?_
          go_simp
          exact hK3
        · intro z w hC hk K' hK
          have e49 : z 49 = .bool true := (hk 49 (by decide +kernel) rfl).of (by decide)
          have e53 : z 53 = .pointer (some ⟨gd, k, none⟩) := (hk 53 (by decide +kernel) rfl).of (by decide)
          have hK3 := hK (.int .i64 dk) w (fun s hs => by cases hs; exact VL.mk (by decide)) (Below.refl _ _)
          have gD := (cat hC hgd2).trans cD
          simp only [over_actM] at hK3 ⊢
          clear hK hk
          unfold actM at *
          simp only [e49, e53] at hK3 ⊢
          refine want_yes rfl rfl ?_
          go_simp
          exact hK3
        · intro z w hC hk K' hK
          have e49 : z 49 = .bool true := (hk 49 (by decide +kernel) rfl).of (by decide)
          have e50 : z 50 = .int .i64 (d : Int) := (hk 50 (by decide +kernel) rfl).of (by decide)
          have e54 : z 54 = .int .i64 dk := (hk 54 (by decide +kernel) rfl).of (by decide)
          have hK3 := hK (.bool false) w (fun s hs => by cases hs; exact VL.mk (by decide)) (Below.refl _ _)
          simp only [over_actM] at hK3 ⊢
          clear hK hk
          unfold actM at *
          simp only [e49, e50, e54] at hK3 ⊢
          refine want_yes rfl rfl ?_
          go_simp
          exact hK3
        · intro z w hC hk K' hK
          have e49 : z 49 = .bool true := (hk 49 (by decide +kernel) rfl).of (by decide)
          have e55 : z 55 = .bool false := (hk 55 (by decide +kernel) rfl).of (by decide)
          have hK3 := hK (.bool false) w (fun s hs => by cases hs; exact VL.mk (by decide)) (Below.refl _ _)
          simp only [over_actM] at hK3 ⊢
          clear hK hk
          unfold actM at *
          simp only [e49, e55] at hK3 ⊢
          refine want_plain rfl ?_
          go_simp
          exact hK3
        · intro z w hC hk K' hK
          have e56 : z 56 = .bool false := (hk 56 (by decide +kernel) rfl).of (by decide)
          have hK3 := hK (.bool false) w (fun s hs => by cases hs; exact VL.mk (by decide)) (Below.refl _ _)
          simp only [over_actM] at hK3 ⊢
          clear hK hk
          unfold actM at *
          simp only [e56] at hK3 ⊢
          refine want_plain rfl ?_
          go_simp
          exact hK3
        · intro z w hC hk K' hK
          have e57 : z 57 = .bool false := (hk 57 (by decide +kernel) rfl).of (by decide)
          have hK3 := hK undef w (fun s hs => by cases hs; exact VL.mk (by decide)) (Below.refl _ _)
          rw [over_actM] at hK3 ⊢
          clear hK hk
          unfold actM at *
          simp only [e57] at hK3 ⊢
          exact want_no rfl (by simp [yielded]) ⟨fun _ _ => trivial, hK3⟩
        · intro z w hC hk K' hK
          have e57 : z 57 = .bool false := (hk 57 (by decide +kernel) rfl).of (by decide)
          have hK3 := hK undef w (fun s hs => by cases hs; exact VL.mkX rfl) (Below.refl _ _)
          rw [over_actM] at hK3 ⊢
          clear hK hk
          unfold actM at *
          simp only [e57] at hK3 ⊢
          exact want_no rfl (by simp [yielded]) ⟨fun _ _ => trivial, hK3⟩
        · intro z w hC hk K' hK
          have e57 : z 57 = .bool false := (hk 57 (by decide +kernel) rfl).of (by decide)
          have hK3 := hK undef w (fun s hs => by cases hs; exact VL.mk (by decide)) (Below.refl _ _)
          rw [over_actM] at hK3 ⊢
          clear hK hk
          unfold actM at *
          simp only [e57] at hK3 ⊢
          exact want_no rfl (by simp [yielded]) ⟨fun _ _ => trivial, hK3⟩
        · intro z w hC hk K' hK
          have e57 : z 57 = .bool false := (hk 57 (by decide +kernel) rfl).of (by decide)
          have hK3 := hK undef w (fun s hs => by cases hs; exact VL.mk (by decide)) (Below.refl _ _)
          rw [over_actM] at hK3 ⊢
          clear hK hk
          unfold actM at *
          simp only [e57] at hK3 ⊢
          exact want_no rfl (by simp [yielded]) ⟨fun _ _ => trivial, hK3⟩
        · intro z w hC hk K' hK
          have e57 : z 57 = .bool false := (hk 57 (by decide +kernel) rfl).of (by decide)
          have hK3 := hK undef w (fun s hs => by cases hs; exact VL.mk (by decide)) (Below.refl _ _)
          rw [over_actM] at hK3 ⊢
          clear hK hk
          unfold actM at *
          simp only [e57] at hK3 ⊢
          exact want_no rfl (by simp [yielded]) ⟨fun _ _ => trivial, hK3⟩
        · intro z w hC hk K' hK
          have e57 : z 57 = .bool false := (hk 57 (by decide +kernel) rfl).of (by decide)
          have hK3 := hK undef w (fun s hs => by cases hs; exact VL.mk (by decide)) (Below.refl _ _)
          rw [over_actM] at hK3 ⊢
          clear hK hk
          unfold actM at *
          simp only [e57] at hK3 ⊢
          exact want_no rfl (by simp [yielded]) ⟨fun _ _ => trivial, hK3⟩
        · intro z w hC hk K' hK
          have e57 : z 57 = .bool false := (hk 57 (by decide +kernel) rfl).of (by decide)
          have hK3 := hK undef w (fun s hs => by cases hs; exact VL.mk (by decide)) (Below.refl _ _)
          rw [over_actM] at hK3 ⊢
          clear hK hk
          unfold actM at *
          simp only [e57] at hK3 ⊢
          exact want_no rfl (by simp [yielded]) ⟨fun _ _ => trivial, hK3⟩
        · intro z w hC hk K' hK
          have e57 : z 57 = .bool false := (hk 57 (by decide +kernel) rfl).of (by decide)
          have e64 : z 64 = undef := (hk 64 (by decide +kernel) rfl).of (by decide)
          have hK3 := hK (.bool false) w (fun s hs => by cases hs; exact VL.mk (by decide)) (Below.refl _ _)
          simp only [over_actM] at hK3 ⊢
          clear hK hk
          unfold actM at *
          simp only [e57, e64] at hK3 ⊢
          refine want_plain rfl ?_
          go_simp
          exact hK3
        · intro o ho z w hC hv K' hK
          cases ho
          have e65 : z 65 = .bool false := (hv 65 (by decide +kernel)).of (by decide)
          have g8 := (cat hC bo2.lt).trans (bo2.cell 0)
          have f8 := (bo2.below hC bo2.lt).frozen 0
          have hK3 := fun a' w' h => hK a' w' (wpAnyIn_done (by decide +kernel) h 0)
          clear hK hv
          simp only [over_actM]
          unfold actM at *
          simp only [e65]
          refine want_plain rfl ?_
          go_simp
          refine hK3 _ _ (hK2 _ _ ?_)
          clear hK3 hK2
          obtain ⟨Wd, hWd⟩ : ∃ Wd, w.setCell ⟨M + 2 + 1, 0, none⟩ (.bool false) = Wd := ⟨_, rfl⟩
          have nd : Blk Wd (M + 2) 3 #[.int .i64 (k : Int)] := by rw [← hWd]; exact (bn2.below hC bn2.lt).other (by omega) 0 _
          have od : Blk Wd (M + 2 + 1) 4 #[.bool false] := by rw [← hWd]; exact (bo2.below hC bo2.lt).set 0 _
          have sd : Blk Wd (N + 1) 3 #[.int .i64 (1 + (q : Int))] := by rw [← hWd]; exact (bs2.below hC bs2.lt).other (by omega) 0 _
          have hOd : Only [M + 2, M + 2 + 1, E + 1] W Wd := by rw [← hWd]; exact (hO2.trans (Only.of_below' hC)).set (by simp) 0 _
          have hlD : Wd.heap[E + 1]? = some (.loop (L .busy none)) := by rw [← hWd]; exact (Below.heap_setCell w ⟨M + 2 + 1, 0, none⟩ _ (E + 1) (show E + 1 ≠ M + 2 + 1 by omega)).trans ((hC.block _ (Array.getElem?_eq_some_iff.1 hlb).1).trans hlb)
          obtain ⟨We, hWe⟩ : ∃ We, Wd.setCell ⟨M + 2, 0, none⟩ (.int .i64 ((k : Int) + 1)) = We := ⟨_, rfl⟩
          have ne : Blk We (M + 2) 3 #[.int .i64 ((k : Int) + 1)] := by rw [← hWe]; exact nd.set 0 _
          have oe : Blk We (M + 2 + 1) 4 #[.bool false] := by rw [← hWe]; exact od.other (by omega) 0 _
          have se : Blk We (N + 1) 3 #[.int .i64 (1 + (q : Int))] := by rw [← hWe]; exact sd.other (by omega) 0 _
          have hOe : Only [M + 2, M + 2 + 1, E + 1] W We := by rw [← hWe]; exact hOd.set (by simp) 0 _
          have hlE : We.heap[E + 1]? = some (.loop (L .busy none)) := by rw [← hWe]; exact (Below.heap_setCell Wd ⟨M + 2, 0, none⟩ _ (E + 1) (show E + 1 ≠ M + 2 by omega)).trans hlD
          have x0 := nd.cell 0
          have x1 := nd.frozen 0
          have x2 := ne.cell 0
          have x3 := se.cell 0
          have x4 := oe.cell 0
          rw [← hkp.out] at ne
          have HT : Hid _ := @turn_true w9 M E q (t.within 1) L w8.heap.size W We pre (d, u) _ _ hE hO hOe hlE hl hD bn bo ne
          have HF : Hid _ := @turn_false w9 M E q (t.within 1) L W We pre (d, u) _ _ false hE hO hOe hlE hl hD bn bo ne oe
          clear ne nd od sd hOd hlD
          by_cases hst : k + 1 = 1 + q
          · have j1 : ((k : Int) + 1 == 1 + (q : Int)) = true := by simp; omega
            have j2 : decide ((k : Int) + 1 = 1 + (q : Int)) = true := by simp; omega
            gi_wp2
            refine ⟨hlE, .inr ⟨rfl, HF.out (fun _ => by have := hkp.out; omega) (fun e => hbad.out (by rw [hc2]; rfl)) (by omega)⟩⟩
          · have j1 : ((k : Int) + 1 == 1 + (q : Int)) = false := by simp; omega
            have j2 : decide ((k : Int) + 1 = 1 + (q : Int)) = false := by simp; omega
            clear hst
            cases r
            · gi_wp2
              refine ⟨hlE, .inr ⟨rfl, HF.out (fun e => by cases e) (fun e => hbad.out (by rw [hc2]; rfl)) (by omega)⟩⟩
            · gi_wp2
              refine ⟨hlE, .inr ⟨rfl, HF.out (fun e => by cases e) (fun e => hbad.out (by rw [hc2]; rfl)) (by omega)⟩⟩
      · clear hc
        refine region_vals 24 (fun s => Nat.ble 42 s && Nat.ble s 65) (VL (valsL gk gd len ck cd k d dk (tv (.slice sa sn sc) u.base) (tv (.slice pa pn pc) uk.base) true r) (fun w v => ∃ ya yn yc, v = tv (.slice ya yn yc) u.base ∧ Holds w okT u.args (.slice ya yn yc))) (fun w => Below W2.heap.size W2 w) (by kernel_rfl) (by decide) (by kernel_rfl) (by kernel_rfl) (by kernel_rfl) (fun _ _ _ _ h hb => h.mono (fun w w' v hv hb => by obtain ⟨ya, yn, yc, h1, h2⟩ := hv; exact ⟨ya, yn, yc, h1, h2.bel hb⟩) hb) (fun _ _ h hb => h.trans (hb.mono h.size)) ((Below.refl _ _).drew) ⟨?_, ?_, ?_, ?_, ?_, ?_, ?_, ?_, ?_, ?_, ?_, ?_, ?_, ?_, ?_, ?_, ?_, ?_, ?_, ?_, ?_, ?_, ?_, ?_, trivial⟩ ?_
        · intro z w hC hk K' hK
          have hK3 := hK (.bool true) w (fun s hs => by cases hs; exact VL.mk (by decide)) (Below.refl _ _)
          have g8 := (cat hC bo2.lt).trans (bo2.cell 0)
          simp only [over_actM] at hK3 ⊢
          clear hK hk
          unfold actM at *
          refine want_plain rfl ?_
          go_simp
          exact hK3
        · intro z w hC hk K' hK
          have e42 : z 42 = .bool true := (hk 42 (by decide +kernel) rfl).of (by decide)
          have hK3 := hK (.bool true) w (fun s hs => by cases hs; exact VL.mk (by decide)) (Below.refl _ _)
          simp only [over_actM] at hK3 ⊢
          clear hK hk
          unfold actM at *
          simp only [e42] at hK3 ⊢
          refine want_plain rfl ?_
          go_simp
          exact hK3
        · intro z w hC hk K' hK
          have e43 : z 43 = .bool true := (hk 43 (by decide +kernel) rfl).of (by decide)
          have hK3 := hK (.int .i64 (k : Int)) w (fun s hs => by cases hs; exact VL.mk (by decide)) (Below.refl _ _)
          have g7 := (cat hC bn2.lt).trans (bn2.cell 0)
          simp only [over_actM] at hK3 ⊢
          clear hK hk
          unfold actM at *
          simp only [e43] at hK3 ⊢
          refine want_yes rfl rfl ?_
          go_simp
          exact hK3
        · intro z w hC hk K' hK
          have e43 : z 43 = .bool true := (hk 43 (by decide +kernel) rfl).of (by decide)
          have hK3 := hK (.slice (some ⟨gk, 0, none⟩) len ck) w (fun s hs => by cases hs; exact VL.mk (by decide)) (Below.refl _ _)
          have g5 := (cat hC bk2.lt).trans (bk2.cell 0)
          simp only [over_actM] at hK3 ⊢
          clear hK hk
          unfold actM at *
          simp only [e43] at hK3 ⊢
          refine want_yes rfl rfl ?_
          go_simp
          exact hK3
        · intro z w hC hk K' hK
          have e43 : z 43 = .bool true := (hk 43 (by decide +kernel) rfl).of (by decide)
          have e45 : z 45 = .slice (some ⟨gk, 0, none⟩) len ck := (hk 45 (by decide +kernel) rfl).of (by decide)
          have hK3 := hK (.int .i64 (len : Int)) w (fun s hs => by cases hs; exact VL.mk (by decide)) (Below.refl _ _)
          simp only [over_actM] at hK3 ⊢
          clear hK hk
          unfold actM at *
          simp only [e43, e45] at hK3 ⊢
          refine want_yes rfl rfl ?_
          go_simp
          exact hK3
        · intro z w hC hk K' hK
          have e43 : z 43 = .bool true := (hk 43 (by decide +kernel) rfl).of (by decide)
          have e44 : z 44 = .int .i64 (k : Int) := (hk 44 (by decide +kernel) rfl).of (by decide)
          have e46 : z 46 = .int .i64 (len : Int) := (hk 46 (by decide +kernel) rfl).of (by decide)
          have hK3 := hK (.bool true) w (fun s hs => by cases hs; exact VL.mk (by decide)) (Below.refl _ _)
          simp only [over_actM] at hK3 ⊢
          clear hK hk
          unfold actM at *
          simp only [e43, e44, e46] at hK3 ⊢
          refine want_yes rfl rfl ?_
          go_simp
          exact hK3
        · intro z w hC hk K' hK
          have e43 : z 43 = .bool true := (hk 43 (by decide +kernel) rfl).of (by decide)
          have e47 : z 47 = .bool true := (hk 47 (by decide +kernel) rfl).of (by decide)
          have hK3 := hK (.bool true) w (fun s hs => by cases hs; exact VL.mk (by decide)) (Below.refl _ _)
          simp only [over_actM] at hK3 ⊢
          clear hK hk
          unfold actM at *
          simp only [e43, e47] at hK3 ⊢
          refine want_plain rfl ?_
          go_simp
          exact hK3
        · intro z w hC hk K' hK
          have e48 : z 48 = .bool true := (hk 48 (by decide +kernel) rfl).of (by decide)
          have hK3 := hK (.bool true) w (fun s hs => by cases hs; exact VL.mk (by decide)) (Below.refl _ _)
          simp only [over_actM] at hK3 ⊢
          clear hK hk
          unfold actM at *
          simp only [e48] at hK3 ⊢
          refine want_plain rfl ?_
          go_simp
          exact hK3
        · intro z w hC hk K' hK
          have e49 : z 49 = .bool true := (hk 49 (by decide +kernel) rfl).of (by decide)
          have hK3 := hK (.int .i64 (d : Int)) w (fun s hs => by cases hs; exact VL.mk (by decide)) (Below.refl _ _)
          simp only [over_actM] at hK3 ⊢
          clear hK hk
          unfold actM at *
          simp only [e49] at hK3 ⊢
          refine want_yes rfl rfl ?_
          go_simp
          exact hK3
        · intro z w hC hk K' hK
          have e49 : z 49 = .bool true := (hk 49 (by decide +kernel) rfl).of (by decide)
          have hK3 := hK (.slice (some ⟨gd, 0, none⟩) len cd) w (fun s hs => by cases hs; exact VL.mk (by decide)) (Below.refl _ _)
          have g6 := (cat hC bd2.lt).trans (bd2.cell 0)
          simp only [over_actM] at hK3 ⊢
          clear hK hk
          unfold actM at *
          simp only [e49] at hK3 ⊢
          refine want_yes rfl rfl ?_
          go_simp
          exact hK3
        · intro z w hC hk K' hK
          have e49 : z 49 = .bool true := (hk 49 (by decide +kernel) rfl).of (by decide)
          have hK3 := hK (.int .i64 (k : Int)) w (fun s hs => by cases hs; exact VL.mk (by decide)) (Below.refl _ _)
          have g7 := (cat hC bn2.lt).trans (bn2.cell 0)
          simp only [over_actM] at hK3 ⊢
          clear hK hk
          unfold actM at *
          simp only [e49] at hK3 ⊢
          refine want_yes rfl rfl ?_
          go_simp
          exact hK3
        · intro z w hC hk K' hK
          have e49 : z 49 = .bool true := (hk 49 (by decide +kernel) rfl).of (by decide)
          have e51 : z 51 = .slice (some ⟨gd, 0, none⟩) len cd := (hk 51 (by decide +kernel) rfl).of (by decide)
          have e52 : z 52 = .int .i64 (k : Int) := (hk 52 (by decide +kernel) rfl).of (by decide)
          have hK3 := hK (.pointer (some ⟨gd, k, none⟩)) w (fun s hs => by cases hs; exact VL.mk (by decide)) (Below.refl _ _)
          simp only [over_actM] at hK3 ⊢
          clear hK hk
          unfold actM at *
          simp only [e49, e51, e52] at hK3 ⊢
          refine want_yes rfl rfl ?_
          go_simp
          exact hK3
        · intro z w hC hk K' hK
          have e49 : z 49 = .bool true := (hk 49 (by decide +kernel) rfl).of (by decide)
          have e53 : z 53 = .pointer (some ⟨gd, k, none⟩) := (hk 53 (by decide +kernel) rfl).of (by decide)
          have hK3 := hK (.int .i64 dk) w (fun s hs => by cases hs; exact VL.mk (by decide)) (Below.refl _ _)
          have gD := (cat hC hgd2).trans cD
          simp only [over_actM] at hK3 ⊢
          clear hK hk
          unfold actM at *
          simp only [e49, e53] at hK3 ⊢
          refine want_yes rfl rfl ?_
          go_simp
          exact hK3
        · intro z w hC hk K' hK
          have e49 : z 49 = .bool true := (hk 49 (by decide +kernel) rfl).of (by decide)
          have e50 : z 50 = .int .i64 (d : Int) := (hk 50 (by decide +kernel) rfl).of (by decide)
          have e54 : z 54 = .int .i64 dk := (hk 54 (by decide +kernel) rfl).of (by decide)
          have hK3 := hK (.bool true) w (fun s hs => by cases hs; exact VL.mk (by decide)) (Below.refl _ _)
          simp only [over_actM] at hK3 ⊢
          clear hK hk
          unfold actM at *
          simp only [e49, e50, e54] at hK3 ⊢
          refine want_yes rfl rfl ?_
          go_simp
          exact hK3
        · intro z w hC hk K' hK
          have e49 : z 49 = .bool true := (hk 49 (by decide +kernel) rfl).of (by decide)
          have e55 : z 55 = .bool true := (hk 55 (by decide +kernel) rfl).of (by decide)
          have hK3 := hK (.bool true) w (fun s hs => by cases hs; exact VL.mk (by decide)) (Below.refl _ _)
          simp only [over_actM] at hK3 ⊢
          clear hK hk
          unfold actM at *
          simp only [e49, e55] at hK3 ⊢
          refine want_plain rfl ?_
          go_simp
          exact hK3
        · intro z w hC hk K' hK
          have e56 : z 56 = .bool true := (hk 56 (by decide +kernel) rfl).of (by decide)
          have hK3 := hK (.bool true) w (fun s hs => by cases hs; exact VL.mk (by decide)) (Below.refl _ _)
          simp only [over_actM] at hK3 ⊢
          clear hK hk
          unfold actM at *
          simp only [e56] at hK3 ⊢
          refine want_plain rfl ?_
          go_simp
          exact hK3
        · intro z w hC hk K' hK
          have e57 : z 57 = .bool true := (hk 57 (by decide +kernel) rfl).of (by decide)
          have hK3 := hK (tv (.slice sa sn sc) u.base) w (fun s hs => by cases hs; exact VL.mk (by decide)) (Below.refl _ _)
          have gX0 := (cat hC bx2.lt).trans (bx2.cell 0)
          have gX1 := (cat hC bx2.lt).trans (bx2.cell 1)
          simp only [over_actM] at hK3 ⊢
          clear hK hk
          unfold actM at *
          simp only [e57] at hK3 ⊢
          refine want_yes rfl rfl ?_
          go_simp
          exact hK3
        · intro z w hC hk K' hK
          have e57 : z 57 = .bool true := (hk 57 (by decide +kernel) rfl).of (by decide)
          have e58 : z 58 = tv (.slice sa sn sc) u.base := (hk 58 (by decide +kernel) rfl).of (by decide)
          have hcall := Of_calls u okT (.slice sa sn sc) w (hsh2.bel hC) hus
          have hK3 := fun (w2 : World) (ya : Option Addr) (yn yc : Nat) (hv2 : Holds w2 okT u.args (.slice ya yn yc)) (hb2 : Below w.heap.size w w2) => hK (tv (.slice ya yn yc) u.base) w2 (fun s hs => by cases hs; exact VL.mkX ⟨ya, yn, yc, rfl, hv2⟩) hb2
          simp only [over_actM] at hK3 ⊢
          clear hK hk
          unfold actM at *
          simp only [e57, e58] at hK3 ⊢
          refine want_yes rfl rfl ?_
          go_simp
          refine ⟨trivial, (fun h => by cases h), (CallsIn.inRound (E + 1) (callsIn_wide.2 hcall)).mono ?_⟩
          rintro e w2 ⟨v2, rfl, hv2, hb2⟩
          obtain ⟨ya, yc, rfl, _⟩ := hv2.shape
          exact hK3 w2 ya _ yc hv2.t hb2
        · intro z w hC hk K' hK
          have e57 : z 57 = .bool true := (hk 57 (by decide +kernel) rfl).of (by decide)
          have hK3 := hK (.slice (some ⟨gk, 0, none⟩) len ck) w (fun s hs => by cases hs; exact VL.mk (by decide)) (Below.refl _ _)
          have g5 := (cat hC bk2.lt).trans (bk2.cell 0)
          simp only [over_actM] at hK3 ⊢
          clear hK hk
          unfold actM at *
          simp only [e57] at hK3 ⊢
          refine want_yes rfl rfl ?_
          go_simp
          exact hK3
        · intro z w hC hk K' hK
          have e57 : z 57 = .bool true := (hk 57 (by decide +kernel) rfl).of (by decide)
          have hK3 := hK (.int .i64 (k : Int)) w (fun s hs => by cases hs; exact VL.mk (by decide)) (Below.refl _ _)
          have g7 := (cat hC bn2.lt).trans (bn2.cell 0)
          simp only [over_actM] at hK3 ⊢
          clear hK hk
          unfold actM at *
          simp only [e57] at hK3 ⊢
          refine want_yes rfl rfl ?_
          go_simp
          exact hK3
        · intro z w hC hk K' hK
          have e57 : z 57 = .bool true := (hk 57 (by decide +kernel) rfl).of (by decide)
          have e60 : z 60 = .slice (some ⟨gk, 0, none⟩) len ck := (hk 60 (by decide +kernel) rfl).of (by decide)
          have e61 : z 61 = .int .i64 (k : Int) := (hk 61 (by decide +kernel) rfl).of (by decide)
          have hK3 := hK (.pointer (some ⟨gk, k * 2, none⟩)) w (fun s hs => by cases hs; exact VL.mk (by decide)) (Below.refl _ _)
          simp only [over_actM] at hK3 ⊢
          clear hK hk
          unfold actM at *
          simp only [e57, e60, e61] at hK3 ⊢
          refine want_yes rfl rfl ?_
          go_simp
          exact hK3
        · intro z w hC hk K' hK
          have e57 : z 57 = .bool true := (hk 57 (by decide +kernel) rfl).of (by decide)
          have e62 : z 62 = .pointer (some ⟨gk, k * 2, none⟩) := (hk 62 (by decide +kernel) rfl).of (by decide)
          have hK3 := hK (tv (.slice pa pn pc) uk.base) w (fun s hs => by cases hs; exact VL.mk (by decide)) (Below.refl _ _)
          have gK0 := (cat hC hgk2).trans cK0
          have gK1 := (cat hC hgk2).trans cK1
          simp only [over_actM] at hK3 ⊢
          clear hK hk
          unfold actM at *
          simp only [e57, e62] at hK3 ⊢
          refine want_yes rfl rfl ?_
          go_simp
          exact hK3
        · intro z w hC hk K' hK
          have e57 : z 57 = .bool true := (hk 57 (by decide +kernel) rfl).of (by decide)
          have e63 : z 63 = tv (.slice pa pn pc) uk.base := (hk 63 (by decide +kernel) rfl).of (by decide)
          obtain ⟨ya, yn, yc, e59, hy59⟩ := (hk 59 (by decide +kernel) rfl).at
          have hcall := Same_calls u uk okT (fun b => b < N) (.slice ya yn yc) (.slice pa pn pc) w hy59 (hkk.belN (fun b hb => hb) (hbN2.trans (hC.mono hN2))) hus
          rw [hrr.out] at hcall
          have hK3 := fun (w2 : World) (hb2 : Below w.heap.size w w2) => hK (.bool r) w2 (fun s hs => by cases hs; exact VL.mk (by decide)) hb2
          simp only [over_actM] at hK3 ⊢
          clear hK hk
          unfold actM at *
          simp only [e57, e63, e59] at hK3 ⊢
          refine want_yes rfl rfl ?_
          go_simp
          refine ⟨trivial, (fun h => by cases h), (CallsIn.inRound (E + 1) (callsIn_wide.2 hcall)).mono ?_⟩
          rintro e w2 ⟨rfl, hb2⟩
          exact hK3 w2 hb2
        · intro z w hC hk K' hK
          have e57 : z 57 = .bool true := (hk 57 (by decide +kernel) rfl).of (by decide)
          have e64 : z 64 = .bool r := (hk 64 (by decide +kernel) rfl).of (by decide)
          have hK3 := hK (.bool r) w (fun s hs => by cases hs; exact VL.mk (by decide)) (Below.refl _ _)
          simp only [over_actM] at hK3 ⊢
          clear hK hk
          unfold actM at *
          simp only [e57, e64] at hK3 ⊢
          refine want_plain rfl ?_
          go_simp
          exact hK3
        · intro o ho z w hC hv K' hK
          cases ho
          have e65 : z 65 = .bool r := (hv 65 (by decide +kernel)).of (by decide)
          have g8 := (cat hC bo2.lt).trans (bo2.cell 0)
          have f8 := (bo2.below hC bo2.lt).frozen 0
          have hK3 := fun a' w' h => hK a' w' (wpAnyIn_done (by decide +kernel) h 0)
          clear hK hv
          simp only [over_actM]
          unfold actM at *
          simp only [e65]
          refine want_plain rfl ?_
          go_simp
          refine hK3 _ _ (hK2 _ _ ?_)
          clear hK3 hK2
          obtain ⟨Wd, hWd⟩ : ∃ Wd, w.setCell ⟨M + 2 + 1, 0, none⟩ (.bool r) = Wd := ⟨_, rfl⟩
          have nd : Blk Wd (M + 2) 3 #[.int .i64 (k : Int)] := by rw [← hWd]; exact (bn2.below hC bn2.lt).other (by omega) 0 _
          have od : Blk Wd (M + 2 + 1) 4 #[.bool r] := by rw [← hWd]; exact (bo2.below hC bo2.lt).set 0 _
          have sd : Blk Wd (N + 1) 3 #[.int .i64 (1 + (q : Int))] := by rw [← hWd]; exact (bs2.below hC bs2.lt).other (by omega) 0 _
          have hOd : Only [M + 2, M + 2 + 1, E + 1] W Wd := by rw [← hWd]; exact (hO2.trans (Only.of_below' hC)).set (by simp) 0 _
          have hlD : Wd.heap[E + 1]? = some (.loop (L .busy none)) := by rw [← hWd]; exact (Below.heap_setCell w ⟨M + 2 + 1, 0, none⟩ _ (E + 1) (show E + 1 ≠ M + 2 + 1 by omega)).trans ((hC.block _ (Array.getElem?_eq_some_iff.1 hlb).1).trans hlb)
          obtain ⟨We, hWe⟩ : ∃ We, Wd.setCell ⟨M + 2, 0, none⟩ (.int .i64 ((k : Int) + 1)) = We := ⟨_, rfl⟩
          have ne : Blk We (M + 2) 3 #[.int .i64 ((k : Int) + 1)] := by rw [← hWe]; exact nd.set 0 _
          have oe : Blk We (M + 2 + 1) 4 #[.bool r] := by rw [← hWe]; exact od.other (by omega) 0 _
          have se : Blk We (N + 1) 3 #[.int .i64 (1 + (q : Int))] := by rw [← hWe]; exact sd.other (by omega) 0 _
          have hOe : Only [M + 2, M + 2 + 1, E + 1] W We := by rw [← hWe]; exact hOd.set (by simp) 0 _
          have hlE : We.heap[E + 1]? = some (.loop (L .busy none)) := by rw [← hWe]; exact (Below.heap_setCell Wd ⟨M + 2, 0, none⟩ _ (E + 1) (show E + 1 ≠ M + 2 by omega)).trans hlD
          have x0 := nd.cell 0
          have x1 := nd.frozen 0
          have x2 := ne.cell 0
          have x3 := se.cell 0
          have x4 := oe.cell 0
          rw [← hkp.out] at ne
          have HT : Hid _ := @turn_true w9 M E q (t.within 1) L w8.heap.size W We pre (d, u) _ _ hE hO hOe hlE hl hD bn bo ne
          have HF : Hid _ := @turn_false w9 M E q (t.within 1) L W We pre (d, u) _ _ r hE hO hOe hlE hl hD bn bo ne oe
          clear ne nd od sd hOd hlD
          by_cases hst : k + 1 = 1 + q
          · have j1 : ((k : Int) + 1 == 1 + (q : Int)) = true := by simp; omega
            have j2 : decide ((k : Int) + 1 = 1 + (q : Int)) = true := by simp; omega
            gi_wp2
            refine ⟨hlE, .inr ⟨rfl, HF.out (fun _ => by have := hkp.out; omega) (fun e => hbad.out (by rw [hc2, e]; rfl)) (by omega)⟩⟩
          · have j1 : ((k : Int) + 1 == 1 + (q : Int)) = false := by simp; omega
            have j2 : decide ((k : Int) + 1 = 1 + (q : Int)) = false := by simp; omega
            cases r
            · gi_wp2
              refine ⟨hlE, .inr ⟨rfl, HF.out (fun e => by cases e) (fun e => hbad.out (by rw [hc2]; rfl)) (by omega)⟩⟩
            · gi_wp2
              refine ⟨hlE, .inl ⟨rfl, HT.out oe (hgood.out (by rw [hc2]; rfl)) (by have := hkp.out; omega) (by omega) (by omega)⟩⟩
    have hW1s : ((w9.alloc (.deferred (some []))).alloc (.loop (L .ready none))).heap.size = E + 2 := by simp [hE]
    have hl1 : ((w9.alloc (.deferred (some []))).alloc (.loop (L .ready none))).heap[E + 1]? = some (.loop (L .ready none)) := by
      have := World.alloc_heap_new (w9.alloc (.deferred (some []))) (.loop (L .ready none))
      rwa [World.size_alloc, hE] at this
    have hd1 : ((w9.alloc (.deferred (some []))).alloc (.loop (L .ready none))).heap[E]? = some (.deferred (some [])) := by
      rw [← hE]
      exact (Below.heap_alloc _ _ _ (by simp)).trans (World.alloc_heap_new w9 _)
    refine (each1_in (fun b => w8.heap.size ≤ b ∧ b < E) (E + 2) (E + 1) Bk _ (JL w9 M E q (t.within 1) L) (JxL w9 M E q (t.within 1) L) t v9 (JL.own hE) (fun pre W W' h hb => h.below hb) (JxL.own hE) hY _ (by omega) (fun b hb => by omega) ((hBk.alloc _).alloc _) (((h9.mono (ok' := fun b => w8.heap.size ≤ b ∧ b < E) fun b hb h => ⟨h, by omega⟩).alloc _).alloc _) (by omega) ⟨⟨((Only.refl _ _).alloc _).alloc _, (n9.alloc _).alloc _, (o9.alloc _).alloc _, List.nil_prefix, by simp; omega⟩, hl1, hd1⟩).mono ?_
    clear hY
    rintro e W' ⟨hv, ⟨⟨hO, bn, bo, _, hlt⟩, hl, hD⟩ | ⟨pre, hpre, ⟨hO, bn, r, bo, hr1, hr2⟩, hl, hD⟩⟩
    · refine ⟨hv, .inl ⟨hl, ?_⟩⟩
      rw [t.within_length] at bn hlt
      exact hfin _ t.size (hO.grown (grownBy_putObj' W' (E + 1) _) (fun r e => by cases e; omega)) (bn.put _ hl rfl) (bo.put _ hl rfl) (by omega) ((World.putObj_heap_other (by omega)).trans hD)
    · refine ⟨hv, .inr ⟨.exit 0, hl, wpIn_exit ?_⟩⟩
      cases r with
      | false => exact absurd hpre (hr2 rfl)
      | true =>
        have h3 := hpre.length_le
        rw [t.within_length] at h3
        have h4 := hr1 rfl
        exact hfin _ pre.length (hO.grown (grownBy_putObj' W' (E + 1) _) (fun r e => by cases e; omega)) (bn.put _ hl rfl) (bo.put _ hl rfl) (by omega) ((World.putObj_heap_other (by omega)).trans hD)

end Go.Proofs.Ythcncdihgghbjaa
