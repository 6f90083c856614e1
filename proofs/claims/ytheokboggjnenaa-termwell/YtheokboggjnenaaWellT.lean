/-
  TermWell comes out true: the walk.
-/
import Derived.Test.YtheokboggjnenaaWellQ
import Derived.Test.YtheokboggjnenaaChkT
import Derived.Test.YtheokboggjnenaaTyO2
import Derived.Test.YtheokboggjnenaaRightW2
import Derived.Test.YtheokboggjnenaaKnownT
import Derived.Test.YtheokboggjnenaaFewL
import Derived.Test.YtheokboggjnenaaSizeH
import Derived.Test.YtheokboggjnenaaLooseH
import Derived.Deep.RegionHeldLaw
namespace Go.Proofs.Ytheokboggjnenaa
open Go Go.RowKit Go.Sort

theorem small_sizes2 {cs ms ctx : List Ty} (h : smallB cs ms ctx = true) : sizeL cs ≤ 1200 ∧ sizeL ms ≤ 1200 ∧ sizeL ctx ≤ 1200 ∧ (cs.length ≤ 20 ∧ ms.length ≤ 20 ∧ ctx.length ≤ 20 ∧ (∀ u ∈ cs, u.size ≤ 60) ∧ (∀ u ∈ ms, u.size ≤ 60) ∧ ∀ u ∈ ctx, u.size ≤ 60) := by
  unfold smallB at h
  rw [Bool.and_eq_true] at h
  obtain ⟨h1, h2⟩ := h
  have hl : cs.length ≤ 20 ∧ ms.length ≤ 20 ∧ ctx.length ≤ 20 := by
    simp only [Bool.not_eq_true', Bool.or_eq_false_iff, decide_eq_false_iff_not] at h1
    omega
  have hz : ∀ u ∈ cs ++ ms ++ ctx, u.size ≤ 60 := fun u hu => by
    have := List.all_eq_true.1 h2 u hu
    unfold fewB at this
    exact (of_decide_eq_true this).1
  have key : ∀ l : List Ty, (∀ u ∈ l, u.size ≤ 60) → sizeL l ≤ 60 * l.length := fun l => by
    induction l with
    | nil => intro _; simp [sizeL]
    | cons u l ih =>
      intro hh
      have h3 := ih (fun v hv => hh v (by simp [hv]))
      have h4 := hh u (by simp)
      simp only [sizeL, List.length_cons]
      omega
  have z1 : ∀ u ∈ cs, u.size ≤ 60 := fun u hu => hz u (by simp [hu])
  have z2 : ∀ u ∈ ms, u.size ≤ 60 := fun u hu => hz u (by simp [hu])
  have z3 : ∀ u ∈ ctx, u.size ≤ 60 := fun u hu => hz u (by simp [hu])
  have k1 := key cs z1
  have k2 := key ms z2
  have k3 := key ctx z3
  exact ⟨by omega, by omega, by omega, hl.1, hl.2.1, hl.2.2, z1, z2, z3⟩
theorem few_size2 {t : Ty} (h : fewB 60 60 t = true) : t.size ≤ 60 := by
  unfold fewB at h
  exact (of_decide_eq_true h).1

theorem told_uni2 {o : Option Ty} {w : World} {e : Ending} (h : Told o w e) : ∃ a n c, Holds w okT (o.getD (.mk [] 0)).args (.slice a n c) ∧ e = .returned (.tuple #[tv (.slice a n c) (o.getD (.mk [] 0)).base, .int .i64 (if o.isSome then 0 else 10)]) := by
  rcases h with ⟨rfl, rfl⟩ | ⟨h, a, n, c, rfl, hh, rfl⟩
  · exact ⟨none, 0, 0, Holds.nil _ _ _ _ (fun _ => rfl), rfl⟩
  · exact ⟨a, n, c, hh, rfl⟩

theorem etaY_rng (t : Ty) : ∀ m : Nat, m ≤ 1000000 → t.size ≤ 1000000 → (etaY m t).rng := by
  induction t using Ty.ind with
  | h t ih =>
    intro m hm hz
    have h1 := t.size_eq
    have h2 := sizeL_length t.args
    rw [etaY_eq, Tm.rng_eq, etaK_kind, etaK_idx, etaK_args]
    refine ⟨⟨by unfold fits; omega, by unfold fits insI; rw [if_pos rfl]; omega⟩, ?_⟩
    have key : ∀ l : List Ty, (∀ u ∈ l, u ∈ t.args) → l.length ≤ 1000000 → rngT (etaL l) := fun l => by
      induction l with
      | nil => intro _ _; rw [etaL]; trivial
      | cons u r ih2 =>
        intro hh hl
        simp only [List.length_cons] at hl
        rw [etaL]
        exact ⟨ih u (hh u (by simp)) _ (by omega) (by have := size_mem (hh u (by simp)); omega), ih2 (fun v hv => hh v (by simp [hv])) (by omega)⟩
    exact key _ (fun u h => h) (by omega)
theorem etaK_rng (k i : Int) (l : List Ty) (hk : fits k) (hi : fits (insI k i l.length)) (hz : sizeL l ≤ 1000) : (etaK k i l).rng := by
  rw [Tm.rng_eq, etaK_kind, etaK_idx, etaK_args]
  refine ⟨⟨hk, hi⟩, ?_⟩
  have key : ∀ l : List Ty, sizeL l ≤ 1000 → rngT (etaL l) := fun l => by
    induction l with
    | nil => intro _; rw [etaL]; trivial
    | cons u r ih =>
      intro hh
      have h1 := sizeL_length r
      simp only [sizeL] at hh
      rw [etaL]
      exact ⟨etaY_rng u _ (by omega) (by omega), ih (by omega)⟩
  exact key _ hz
/-- A head that stands for a type: its long form, and what is known of it. -/
theorem eta_facts {cs ms ctx : List Ty} {k i : Int} {h : Ty} (hp : pickA cs ms ctx k i = some h) (hk : fits k) (hl : cs.length ≤ 20 ∧ ms.length ≤ 20 ∧ ctx.length ≤ 20) (hz : h.size ≤ 60) : etaR k i h.args = etaK k i h.args ∧ (etaK k i h.args).rng := by
  have hi : 0 ≤ i ∧ i < 20 := by
    unfold pickA at hp
    by_cases h0 : i < 0
    · rw [if_pos h0] at hp; cases hp
    rw [if_neg h0] at hp
    have hg : ∀ (l : List Ty) (j : Nat), l.length ≤ 20 → l[j]? = some h → j < 20 := fun l j hl hj => by
      have := (List.getElem?_eq_some_iff.1 hj).1
      omega
    by_cases h1 : k = 0
    · rw [if_pos h1] at hp
      by_cases h2 : i.toNat < ctx.length
      · omega
      · rw [if_neg h2] at hp; cases hp
    rw [if_neg h1] at hp
    by_cases h2 : k = 1
    · rw [if_pos h2] at hp; have := hg _ _ hl.1 hp; omega
    rw [if_neg h2] at hp
    by_cases h3 : k = 2
    · rw [if_pos h3] at hp; have := hg _ _ hl.2.1 hp; omega
    rw [if_neg h3] at hp
    cases hp
  have h2 := h.size_eq
  have h3 := sizeL_length h.args
  refine ⟨?_, etaK_rng _ _ _ hk (by unfold fits insI; split <;> omega) (by omega)⟩
  unfold etaR
  rw [if_neg]
  unfold etaBad
  simp
  omega

def actW6  (y0 y1 y2 y3 y4 y5 y6 y7 y8 y9 y10 y11 y12 y13 y14 y16 y17 y18 y19 y20 y21 y22 y23 y24 y25 y26 y27 y28 y29 y30 y31 y32 y33 y34 y35 y36 y37 y38 y39 y40 y41 y42 y43 y44 y45 y46 y47 y48 y49 y50 y51 y52 y53 y54 y55 y56 y57 y77 y78 y79 y80 y81 y82 y83 y84 y85 y86 y87 y88 y89 y90 y91 y92 y93 y94 y95 y96 y97 y98 y99 y100 y101 y102 y103 y104 y105 y106 y107 y108 y109 y110 y111 y112 y113 y114 y115 y116 y117 y118 y119 y120 y121 y122 y123 y124 y125 y126 y127 y128 : Value) (u : Nat → Value) : Act :=
  { tmps := #[y0, y1, y2, y3, y4, y5, y6, y7, y8, y9, y10, y11, y12, y13, y14, .int .i64 10, y16, y17, y18, y19, y20, y21, y22, y23, y24, y25, y26, y27, y28, y29, y30, y31, y32, y33, y34, y35, y36, y37, y38, y39, y40, y41, y42, y43, y44, y45, y46, y47, y48, y49, y50, y51, y52, y53, y54, y55, y56, y57, u 58, u 59, u 60, u 61, u 62, u 63, u 64, u 65, u 66, u 67, u 68, u 69, u 70, u 71, u 72, u 73, u 74, u 75, u 76, y77, y78, y79, y80, y81, y82, y83, y84, y85, y86, y87, y88, y89, y90, y91, y92, y93, y94, y95, y96, y97, y98, y99, y100, y101, y102, y103, y104, y105, y106, y107, y108, y109, y110, y111, y112, y113, y114, y115, y116, y117, y118, y119, y120, y121, y122, y123, y124, y125, y126, y127, y128], defers := [] }
set_option maxRecDepth 100000 in
theorem over_actW6  (y0 y1 y2 y3 y4 y5 y6 y7 y8 y9 y10 y11 y12 y13 y14 y16 y17 y18 y19 y20 y21 y22 y23 y24 y25 y26 y27 y28 y29 y30 y31 y32 y33 y34 y35 y36 y37 y38 y39 y40 y41 y42 y43 y44 y45 y46 y47 y48 y49 y50 y51 y52 y53 y54 y55 y56 y57 y77 y78 y79 y80 y81 y82 y83 y84 y85 y86 y87 y88 y89 y90 y91 y92 y93 y94 y95 y96 y97 y98 y99 y100 y101 y102 y103 y104 y105 y106 y107 y108 y109 y110 y111 y112 y113 y114 y115 y116 y117 y118 y119 y120 y121 y122 y123 y124 y125 y126 y127 y128 : Value) (u0 u : Nat → Value) : over (fun s => Nat.ble 58 s && Nat.ble s 76) u (actW6  y0 y1 y2 y3 y4 y5 y6 y7 y8 y9 y10 y11 y12 y13 y14 y16 y17 y18 y19 y20 y21 y22 y23 y24 y25 y26 y27 y28 y29 y30 y31 y32 y33 y34 y35 y36 y37 y38 y39 y40 y41 y42 y43 y44 y45 y46 y47 y48 y49 y50 y51 y52 y53 y54 y55 y56 y57 y77 y78 y79 y80 y81 y82 y83 y84 y85 y86 y87 y88 y89 y90 y91 y92 y93 y94 y95 y96 y97 y98 y99 y100 y101 y102 y103 y104 y105 y106 y107 y108 y109 y110 y111 y112 y113 y114 y115 y116 y117 y118 y119 y120 y121 y122 y123 y124 y125 y126 y127 y128 u0) = actW6  y0 y1 y2 y3 y4 y5 y6 y7 y8 y9 y10 y11 y12 y13 y14 y16 y17 y18 y19 y20 y21 y22 y23 y24 y25 y26 y27 y28 y29 y30 y31 y32 y33 y34 y35 y36 y37 y38 y39 y40 y41 y42 y43 y44 y45 y46 y47 y48 y49 y50 y51 y52 y53 y54 y55 y56 y57 y77 y78 y79 y80 y81 y82 y83 y84 y85 y86 y87 y88 y89 y90 y91 y92 y93 y94 y95 y96 y97 y98 y99 y100 y101 y102 y103 y104 y105 y106 y107 y108 y109 y110 y111 y112 y113 y114 y115 y116 y117 y118 y119 y120 y121 y122 y123 y124 y125 y126 y127 y128 u := rfl
def VW6  (s : Nat) (_w : World) (v : Value) : Prop := match s with
  | 58 => v = .int .i64 10
  | 59 => v = .bool false
  | 60 => v = .bool false
  | 61 => v = undef
  | 62 => v = undef
  | 63 => v = undef
  | 64 => v = undef
  | 65 => v = undef
  | 66 => v = .bool false
  | 67 => v = .bool false
  | 68 => v = undef
  | 69 => v = undef
  | 70 => v = undef
  | 71 => v = undef
  | 72 => v = undef
  | 73 => v = undef
  | 74 => v = undef
  | 75 => v = undef
  | 76 => v = .bool false
  | _ => True
theorem VW6.mono  {s : Nat} {w w' : World} {v : Value} (h : VW6  s w v) (_hb : Below w.heap.size w w') : VW6  s w' v := by
  revert h
  unfold VW6
  split <;> intro h
  · exact h
  · exact h
  · exact h
  · exact h
  · exact h
  · exact h
  · exact h
  · exact h
  · exact h
  · exact h
  · exact h
  · exact h
  · exact h
  · exact h
  · exact h
  · exact h
  · exact h
  · exact h
  · exact h
  · trivial
def actW9  (y0 y1 y2 y3 y4 y5 y6 y7 y8 y9 y10 y11 y12 y13 y14 y15 y16 y18 y19 y20 y21 y22 y23 y24 y25 y26 y27 y28 y29 y30 y31 y32 y33 y34 y35 y36 y37 y38 y39 y40 y41 y42 y43 y44 y45 y46 y47 y48 y49 y50 y51 y52 y53 y54 y55 y56 y57 y58 y59 y60 y61 y62 y63 y64 y65 y66 y67 y68 y69 y70 y71 y72 y73 y74 y75 y76 y77 y78 y79 y80 y81 y82 y83 y84 y96 y97 y98 y99 y100 y101 y102 y103 y104 y105 y106 y107 y108 y109 y110 y111 y112 y113 y114 y115 y116 y117 y118 y119 y120 y121 y122 y123 y124 y125 y126 y127 y128 : Value) (u : Nat → Value) : Act :=
  { tmps := #[y0, y1, y2, y3, y4, y5, y6, y7, y8, y9, y10, y11, y12, y13, y14, y15, y16, .int .i64 10, y18, y19, y20, y21, y22, y23, y24, y25, y26, y27, y28, y29, y30, y31, y32, y33, y34, y35, y36, y37, y38, y39, y40, y41, y42, y43, y44, y45, y46, y47, y48, y49, y50, y51, y52, y53, y54, y55, y56, y57, y58, y59, y60, y61, y62, y63, y64, y65, y66, y67, y68, y69, y70, y71, y72, y73, y74, y75, y76, y77, y78, y79, y80, y81, y82, y83, y84, u 85, u 86, u 87, u 88, u 89, u 90, u 91, u 92, u 93, u 94, u 95, y96, y97, y98, y99, y100, y101, y102, y103, y104, y105, y106, y107, y108, y109, y110, y111, y112, y113, y114, y115, y116, y117, y118, y119, y120, y121, y122, y123, y124, y125, y126, y127, y128], defers := [] }
set_option maxRecDepth 100000 in
theorem over_actW9  (y0 y1 y2 y3 y4 y5 y6 y7 y8 y9 y10 y11 y12 y13 y14 y15 y16 y18 y19 y20 y21 y22 y23 y24 y25 y26 y27 y28 y29 y30 y31 y32 y33 y34 y35 y36 y37 y38 y39 y40 y41 y42 y43 y44 y45 y46 y47 y48 y49 y50 y51 y52 y53 y54 y55 y56 y57 y58 y59 y60 y61 y62 y63 y64 y65 y66 y67 y68 y69 y70 y71 y72 y73 y74 y75 y76 y77 y78 y79 y80 y81 y82 y83 y84 y96 y97 y98 y99 y100 y101 y102 y103 y104 y105 y106 y107 y108 y109 y110 y111 y112 y113 y114 y115 y116 y117 y118 y119 y120 y121 y122 y123 y124 y125 y126 y127 y128 : Value) (u0 u : Nat → Value) : over (fun s => Nat.ble 85 s && Nat.ble s 95) u (actW9  y0 y1 y2 y3 y4 y5 y6 y7 y8 y9 y10 y11 y12 y13 y14 y15 y16 y18 y19 y20 y21 y22 y23 y24 y25 y26 y27 y28 y29 y30 y31 y32 y33 y34 y35 y36 y37 y38 y39 y40 y41 y42 y43 y44 y45 y46 y47 y48 y49 y50 y51 y52 y53 y54 y55 y56 y57 y58 y59 y60 y61 y62 y63 y64 y65 y66 y67 y68 y69 y70 y71 y72 y73 y74 y75 y76 y77 y78 y79 y80 y81 y82 y83 y84 y96 y97 y98 y99 y100 y101 y102 y103 y104 y105 y106 y107 y108 y109 y110 y111 y112 y113 y114 y115 y116 y117 y118 y119 y120 y121 y122 y123 y124 y125 y126 y127 y128 u0) = actW9  y0 y1 y2 y3 y4 y5 y6 y7 y8 y9 y10 y11 y12 y13 y14 y15 y16 y18 y19 y20 y21 y22 y23 y24 y25 y26 y27 y28 y29 y30 y31 y32 y33 y34 y35 y36 y37 y38 y39 y40 y41 y42 y43 y44 y45 y46 y47 y48 y49 y50 y51 y52 y53 y54 y55 y56 y57 y58 y59 y60 y61 y62 y63 y64 y65 y66 y67 y68 y69 y70 y71 y72 y73 y74 y75 y76 y77 y78 y79 y80 y81 y82 y83 y84 y96 y97 y98 y99 y100 y101 y102 y103 y104 y105 y106 y107 y108 y109 y110 y111 y112 y113 y114 y115 y116 y117 y118 y119 y120 y121 y122 y123 y124 y125 y126 y127 y128 u := rfl
def VW9  (s : Nat) (_w : World) (v : Value) : Prop := match s with
  | 85 => v = .int .i64 10
  | 86 => v = .bool true
  | 87 => v = .bool true
  | 88 => v = undef
  | 89 => v = undef
  | 90 => v = undef
  | 91 => v = undef
  | 92 => v = undef
  | 93 => v = undef
  | 94 => v = undef
  | 95 => v = .bool true
  | _ => True
theorem VW9.mono  {s : Nat} {w w' : World} {v : Value} (h : VW9  s w v) (_hb : Below w.heap.size w w') : VW9  s w' v := by
  revert h
  unfold VW9
  split <;> intro h
  · exact h
  · exact h
  · exact h
  · exact h
  · exact h
  · exact h
  · exact h
  · exact h
  · exact h
  · exact h
  · exact h
  · trivial

set_option maxRecDepth 100000 in
set_option maxHeartbeats 12800000 in
theorem WellT_calls (cs ms ctx mo : List Ty) (hk hi : Int) (t : Tm) (bs : Int) (cv mv xv lv sb sr : Value) (w : World) (hc : Holds w okT cs cv) (hm : Holds w okT ms mv) (hx : Holds w okT ctx xv) (hl : Holds w okT mo lv) (hb : Holds w okT t.binds sb) (hr : HoldsT w okT t.args sr) (hrg : t.rng) (hkf : fits hk) (hhi : hi ≤ 9223372036854775807) :
    Calls Try.prog 8 #[wov bs cv mv, xv, lv, hv hk hi, tmv sb t.kind t.idx sr] w fun e w' => e = .returned (.bool true) ∧ Below w.heap.size w w' := by
  obtain ⟨c1, c2, rfl, _⟩ := hc.shape
  obtain ⟨u1, u2, rfl, _⟩ := hm.shape
  obtain ⟨a1, a2, rfl, _⟩ := hx.shape
  obtain ⟨l1, l2, rfl, _⟩ := hl.shape
  obtain ⟨x1, x3, rfl, _⟩ := hb.shape
  obtain ⟨y1, y3, rfl, _⟩ := hr.shape
  obtain ⟨cn, hcn⟩ : ∃ n, cs.length = n := ⟨_, rfl⟩
  obtain ⟨un, hmn⟩ : ∃ n, ms.length = n := ⟨_, rfl⟩
  obtain ⟨an, han⟩ : ∃ n, ctx.length = n := ⟨_, rfl⟩
  obtain ⟨ln, hln⟩ : ∃ n, mo.length = n := ⟨_, rfl⟩
  obtain ⟨x2, hx2⟩ : ∃ n, t.binds.length = n := ⟨_, rfl⟩
  obtain ⟨y2, hy2⟩ : ∃ n, t.args.length = n := ⟨_, rfl⟩
  rw [hcn] at hc ⊢
  rw [hmn] at hm ⊢
  rw [han] at hx ⊢
  rw [hln] at hl ⊢
  rw [hx2] at hb ⊢
  rw [hy2] at hr ⊢
  have HAN : Hid (ctx.length = an) := han
  have HLN : Hid (mo.length = ln) := hln
  clear hcn hmn han hln hx2 hy2
  obtain ⟨N, hN⟩ : ∃ N, w.heap.size = N := ⟨_, rfl⟩
  rw [hN]
  obtain ⟨W0, hW0⟩ : ∃ W0, ((w.alloc (.cells #[.int .i64 bs, .slice c1 cn c2, .slice u1 un u2] 53)).alloc (.cells #[.int .i64 hk, .int .i64 hi] 24)).alloc (.cells #[.slice x1 x2 x3, .int .i64 t.kind, .int .i64 t.idx, .slice y1 y2 y3] 27) = W0 := ⟨_, rfl⟩
  have b0 : Blk W0 N 53 #[.int .i64 bs, .slice c1 cn c2, .slice u1 un u2] := by rw [← hW0]; exact ((Blk.new' w N 53 _ hN).alloc _).alloc _
  have b1 : Blk W0 (N + 1) 24 #[.int .i64 hk, .int .i64 hi] := by rw [← hW0]; exact (Blk.new' _ (N + 1) 24 _ (by simp [hN])).alloc _
  have b2 : Blk W0 (N + 1 + 1) 27 #[.slice x1 x2 x3, .int .i64 t.kind, .int .i64 t.idx, .slice y1 y2 y3] := by rw [← hW0]; exact Blk.new' _ (N + 1 + 1) 27 _ (by simp [hN])
  have hz0 : W0.heap.size = N + 3 := by rw [← hW0]; simp [hN]
  have bl0 : Below N w W0 := by rw [← hW0]; exact (((Below.refl N w).alloc (by omega) _).alloc (by simp; omega) _).alloc (by simp; omega) _
  have hc0 := hc.bel (hN ▸ bl0)
  have hm0 := hm.bel (hN ▸ bl0)
  have hx0 := hx.bel (hN ▸ bl0)
  have hl0 := hl.bel (hN ▸ bl0)
  have hb0 := hb.bel (hN ▸ bl0)
  have hr0 := hr.bel (hN ▸ bl0)
  obtain ⟨r1, hr1⟩ : ∃ r, fewTB 150 70 t = r := ⟨_, rfl⟩
  obtain ⟨r2, hr2⟩ : ∃ r, smallB cs ms ctx = r := ⟨_, rfl⟩
  obtain ⟨r3, hr3⟩ : ∃ r, smallB cs ms mo = r := ⟨_, rfl⟩
  obtain ⟨q, hq⟩ : ∃ q, decide ((ln : Int) > 10) = q := ⟨_, rfl⟩
  have hq' : decide (10 < (ln : Int)) = q := hq
  have hF1 := holdsT_one W0 (N + 3) hz0 t 27 x1 x2 x3 y1 y2 y3 hb0 hr0
  obtain ⟨W1, hW1⟩ : ∃ W1, W0.alloc (.cells #[.slice x1 x2 x3, .int .i64 t.kind, .int .i64 t.idx, .slice y1 y2 y3] 27) = W1 := ⟨_, rfl⟩
  rw [hW1] at hF1
  have hfl := FewL_calls [t] okT _ W1 hF1 (by simp)
  rw [show [t].all (fewTB 150 70) = r1 by rw [← hr1]; simp] at hfl
  have bb1 : Below W0.heap.size W0 W1 := by rw [← hW1]; exact (Below.refl _ _).alloc (Nat.le_refl _) _
  have HR1 : Hid _ := hr1
  have HR2 : Hid _ := hr2
  have HR3 : Hid _ := hr3
  have HW : Hid _ := hW0
  have HW1 : Hid _ := hW1
  have k30 := fun cur (h : Cur W0 cur) => Small_calls cs ms ctx bs _ _ _ cur (h.holds hc0) (h.holds hm0) (h.holds hx0)
  have k31 := fun cur (h : Cur W0 cur) => Small_calls cs ms mo bs _ _ _ cur (h.holds hc0) (h.holds hm0) (h.holds hl0)
  simp only [hr2] at k30
  simp only [hr3] at k31
  have c0 := b2.cell 0
  have c1' := b2.cell 1
  have c2' := b2.cell 2
  have c3' := b2.cell 3
  have hzN : N ≤ W0.heap.size := by omega
  clear hW0 hW1 hr1 hr2 hr3 hF1 hb hr hc hm hx hl
  go_enter Try.func8, Try.ntmps8
  go_upto_region 1 with fail
  rw [HW.out]
  clear HW
  go_wp2_with fail
  rw [HW1.out]
  clear HW1
  refine hfl.mono ?_
  rintro e w1 ⟨rfl, hb1⟩
  have hd1 : Cur W0 w1 := (show Cur W0 W1 from bb1).then hb1
  clear hfl hb1 bb1 c0 c1' c2' c3'
  cases r1 with
  | false =>
    clear k30 k31
    go_wp2_with fail
    refine (known_calls _).mono ?_
    rintro e w4 ⟨rfl, hb4⟩
    go_wp2
    go_ret
    exact ⟨rfl, bl0.trans (Below.mono (hd1.then hb4) hzN)⟩
  | true =>
  have k2 := k30 w1 hd1
  have e0 := (b0.below hd1 b0.lt).cell 0
  have e1 := (b0.below hd1 b0.lt).cell 1
  have e2 := (b0.below hd1 b0.lt).cell 2
  clear k30
  go_wp2_with fail
  refine k2.mono ?_
  clear k2 e0 e1 e2
  rintro e w2 ⟨rfl, hb2⟩
  have hd2 : Cur W0 w2 := hd1.then hb2
  clear hb2 hd1
  cases r2 with
  | false =>
    clear k31
    go_wp2_with fail
    refine (known_calls _).mono ?_
    rintro e w4 ⟨rfl, hb4⟩
    go_wp2
    go_ret
    exact ⟨rfl, bl0.trans (Below.mono (hd2.then hb4) hzN)⟩
  | true =>
  cases q with
  | true =>
    clear k31
    go_wp2_with fail
    refine (known_calls _).mono ?_
    rintro e w4 ⟨rfl, hb4⟩
    go_wp2
    go_ret
    exact ⟨rfl, bl0.trans (Below.mono (hd2.then hb4) hzN)⟩
  | false =>
  have k2 := k31 w2 hd2
  have e0 := (b0.below hd2 b0.lt).cell 0
  have e1 := (b0.below hd2 b0.lt).cell 1
  have e2 := (b0.below hd2 b0.lt).cell 2
  clear k31
  go_wp2_with fail
  refine k2.mono ?_
  clear k2 e0 e1 e2
  rintro e w3 ⟨rfl, hb3⟩
  have hd3 : Cur W0 w3 := hd2.then hb3
  clear hb3 hd2
  cases r3 with
  | false =>
    go_wp2_with fail
    refine (known_calls _).mono ?_
    rintro e w4 ⟨rfl, hb4⟩
    go_wp2
    go_ret
    exact ⟨rfl, bl0.trans (Below.mono (hd3.then hb4) hzN)⟩
  | true =>
  have htt := total_of_few HR1.out
  have p0 := b0.below hd3 b0.lt
  have p1 := b1.below hd3 b1.lt
  have p2 := b2.below hd3 b2.lt
  have ac := hd3.holds hc0
  have am := hd3.holds hm0
  have ax := hd3.holds hx0
  have al := hd3.holds hl0
  have ab := hd3.holds hb0
  have ar := hr0.bel hd3
  have bl3 : Below N w w3 := bl0.trans (Below.mono hd3 hzN)
  have hs3 : N + 3 ≤ w3.heap.size := by have := Below.size hd3; omega
  obtain ⟨szc, szm, szx, lc, lm, lx, zc, zm, zx⟩ := small_sizes2 HR2.out
  obtain ⟨_, _, szl, _, _, _, _, _, _⟩ := small_sizes2 HR3.out
  have hlm : mo.length ≤ 10 := by have := of_decide_eq_false hq; rw [HLN.out]; omega
  clear b0 b1 b2 bl0 hb0 hr0 hc0 hm0 hx0 hl0 hd3 hz0 hzN hN HR1 HR2 HR3 hq hq'

  have K32 := World_calls cs ms bs _ _ w3 ac am (by omega) (by omega)
  have e0 := p0.cell 0
  have e1 := p0.cell 1
  have e2 := p0.cell 2
  go_wp2_with fail
  refine K32.mono ?_
  clear K32 e0 e1 e2
  rintro e w5 ⟨qa, qn, qc, qd, qm, qe, rfl, hgc, hgm, hb5⟩
  have K33 := TypesT_calls ctx okT _ w5 (ax.bel hb5) (by omega)
  go_wp2_with fail
  refine K33.mono ?_
  clear K33
  rintro e w6 ⟨vv, rfl, hgx, hb6⟩
  obtain ⟨ra, rc, rfl, _⟩ := hgx.shape
  have cur6 : Cur w3 w6 := (show Cur w3 w5 from hb5).then hb6
  have hgc := (hgc.t).bel hb6
  have hgm := (hgm.t).bel hb6
  have hgx := hgx.t
  rw [HAN.out] at hgx ⊢
  clear hb5 hb6
  obtain ⟨A, hA⟩ : ∃ n, w6.heap.size = n := ⟨_, rfl⟩
  obtain ⟨v6, hv6⟩ : ∃ v, w6.alloc (.cells #[.int .i64 bs, .slice qa qn qc, .slice qd qm qe] 59) = v := ⟨_, rfl⟩
  have bA : Blk v6 A 59 #[.int .i64 bs, .slice qa qn qc, .slice qd qm qe] := by rw [← hv6]; exact Blk.new' w6 A 59 _ hA
  have bb6 : Below w6.heap.size w6 v6 := by rw [← hv6]; exact (Below.refl _ _).alloc (Nat.le_refl _) _
  have cv6 : Cur w3 v6 := cur6.then bb6
  have hgc := hgc.bel bb6
  have hgm := hgm.bel bb6
  have hgx := hgx.bel bb6
  have HV6 : Hid _ := hv6
  have e0 := (p1.below cv6 p1.lt).cell 0
  have e1 := (p1.below cv6 p1.lt).cell 1
  clear hv6 bb6 cur6
  go_upto_region 4 with fail
  rw [HV6.out]
  clear HV6 hA
  obtain ⟨B, hB⟩ : ∃ n, v6.heap.size = n := ⟨_, rfl⟩
  obtain ⟨v7, hv7⟩ : ∃ v, v6.alloc (.cells #[.int .i64 hk, .int .i64 hi] 31) = v := ⟨_, rfl⟩
  have bB : Blk v7 B 31 #[.int .i64 hk, .int .i64 hi] := by rw [← hv7]; exact Blk.new' v6 B 31 _ hB
  have bb7 : Below v6.heap.size v6 v7 := by rw [← hv7]; exact (Below.refl _ _).alloc (Nat.le_refl _) _
  have cv7 : Cur w3 v7 := cv6.then bb7
  have bA := bA.below bb7 bA.lt
  have hgc := hgc.bel bb7
  have hgm := hgm.bel bb7
  have hgx := hgx.bel bb7
  have HV7 : Hid _ := hv7
  clear hv7 bb7 cv6
  go_upto_region 5 with fail
  rw [HV7.out]
  clear HV7 hB e0 e1
  have K34 := HeadType_calls cs ms ctx bs hk hi _ _ _ v7 hgc hgm hgx (by omega) (by omega) (by omega) hhi
  have e0 := bA.cell 0
  have e1 := bA.cell 1
  have e2 := bA.cell 2
  have e3 := bB.cell 0
  have e4 := bB.cell 1
  go_wp2_with fail
  refine K34.mono ?_
  clear K34 e0 e1 e2 e3 e4
  rintro e w8 ⟨hf, hb8⟩
  obtain ⟨d1, d2, d3, hd, rfl⟩ := told_uni2 hf
  clear hf
  obtain ⟨o1, ho1⟩ : ∃ o, pickA cs ms ctx hk hi = o := ⟨_, rfl⟩
  rw [ho1] at hd ⊢
  have HO1 : Hid _ := ho1
  clear ho1
  obtain ⟨T1, hT1⟩ : ∃ T, o1.getD (.mk [] 0) = T := ⟨_, rfl⟩
  obtain ⟨n1, hn1⟩ : ∃ n : Int, (if o1.isSome then 0 else 10) = n := ⟨_, rfl⟩
  rw [hT1] at hd ⊢
  rw [hn1]
  obtain ⟨D, hD⟩ : ∃ n, w8.heap.size = n := ⟨_, rfl⟩
  obtain ⟨v8, hv8⟩ : ∃ v, w8.alloc (.cells #[.slice d1 d2 d3, .int .i64 T1.base] 63) = v := ⟨_, rfl⟩
  have bD : Blk v8 D 63 #[.slice d1 d2 d3, .int .i64 T1.base] := by rw [← hv8]; exact Blk.new' w8 D 63 _ hD
  have bb8 : Below w8.heap.size w8 v8 := by rw [← hv8]; exact (Below.refl _ _).alloc (Nat.le_refl _) _
  have cv8 : Cur v7 v8 := (show Cur v7 w8 from hb8).then bb8
  have cw8 : Cur w3 v8 := cv7.then cv8
  have bA := bA.below cv8 bA.lt
  have bB := bB.below cv8 bB.lt
  have hgc := cv8.holds hgc
  have hgm := cv8.holds hgm
  have hgx := cv8.holds hgx
  have hd := hd.bel bb8
  have HV8 : Hid _ := hv8
  clear hv8 bb8 hb8 cv8 cv7
  go_upto_region 6 with fail
  rw [HV8.out]
  clear HV8 hD
  have p0 := p0.below cw8 p0.lt
  have p2 := p2.below cw8 p2.lt
  have ax := cw8.holds ax
  have al := cw8.holds al
  have ab := cw8.holds ab
  have ar := ar.bel cw8
  have bl8 : Below N w v8 := bl3.trans (Below.mono cw8 (by omega))
  have hz8 : N ≤ v8.heap.size := by have := Below.size cw8; omega
  have A0 := bA.cell 0
  have A1 := bA.cell 1
  have A2 := bA.cell 2
  have B0 := bB.cell 0
  have B1 := bB.cell 1
  have D0 := bD.cell 0
  have D1 := bD.cell 1
  have N0 := p2.cell 0
  have N1 := p2.cell 1
  have N2 := p2.cell 2
  have N3 := p2.cell 3
  have hK6 : ∀ v, Cur v8 v → v.cell? ⟨A, 0, none⟩ = some (.int .i64 bs) ∧ v.cell? ⟨A, 1, none⟩ = some (.slice qa qn qc) ∧ v.cell? ⟨A, 2, none⟩ = some (.slice qd qm qe) ∧ v.cell? ⟨B, 0, none⟩ = some (.int .i64 hk) ∧ v.cell? ⟨B, 1, none⟩ = some (.int .i64 hi) ∧ v.cell? ⟨D, 0, none⟩ = some (.slice d1 d2 d3) ∧ v.cell? ⟨D, 1, none⟩ = some (.int .i64 T1.base) := fun v hv => ⟨hv.cell A0, hv.cell A1, hv.cell A2, hv.cell B0, hv.cell B1, hv.cell D0, hv.cell D1⟩
  have hK8 : ∀ v, Cur v8 v → v.cell? ⟨A, 0, none⟩ = some (.int .i64 bs) ∧ v.cell? ⟨A, 1, none⟩ = some (.slice qa qn qc) ∧ v.cell? ⟨A, 2, none⟩ = some (.slice qd qm qe) ∧ v.cell? ⟨N + 1 + 1, 0, none⟩ = some (.slice x1 x2 x3) ∧ v.cell? ⟨N + 1 + 1, 1, none⟩ = some (.int .i64 t.kind) ∧ v.cell? ⟨N + 1 + 1, 2, none⟩ = some (.int .i64 t.idx) ∧ v.cell? ⟨N + 1 + 1, 3, none⟩ = some (.slice y1 y2 y3) := fun v hv => ⟨hv.cell A0, hv.cell A1, hv.cell A2, hv.cell N0, hv.cell N1, hv.cell N2, hv.cell N3⟩
  have hcur := Cur.refl v8
  have hT1s : T1.size ≤ 60 := by
    rw [← hT1]
    cases o1 with
    | none => show (Ty.mk [] 0).size ≤ 60; decide
    | some h =>
      show h.size ≤ 60
      rcases pickA_mem HO1.out with h1 | h1 | h1
      · exact zc h h1
      · exact zm h h1
      · exact zx h h1
  clear A0 A1 A2 B0 B1 D0 D1 N0 N1 N2 N3 p0 p1 p2 bA bB bD ac am cw8 bl3 hs3
  go_cut [76] (fun s76 wx => s76 = .bool false ∧ Below v8.heap.size v8 wx)
  case first =>
    cases o1 with
    | none =>
      obtain rfl : n1 = 10 := by rw [← hn1]; rfl
      rename_i K Q' hKs
      refine (wpIn_wide (n := 9)).1 ?_
      show Code.wpIn Fence.wide 9 Try.prog (Code.region 6 _ true) _ (actW6  (wov bs (Value.slice c1 cn c2) (Value.slice u1 un u2)) (Value.slice a1 an a2) (Value.slice l1 ln l2) (hv hk hi) (tmv (Value.slice x1 x2 x3) t.kind t.idx (Value.slice y1 y2 y3)) (Value.pointer (some { block := N, off := 0 })) (undef) (undef) (Value.pointer (some { block := N + 1, off := 0 })) (Value.pointer (some { block := N + 1 + 1, off := 0 })) (Value.bool false) (Value.pointer (some { block := A, off := 0 })) (Value.slice ra an rc) (Value.pointer (some { block := B, off := 0 })) (Value.pointer (some { block := D, off := 0 })) (undef) (undef) (undef) (undef) (Value.agg #[Value.slice x1 x2 x3, Value.int IntKind.i64 t.kind, Value.int IntKind.i64 t.idx, Value.slice y1 y2 y3]) (Value.slice (some { block := N + 3, off := 0 }) 1 1) (Value.bool true) (Value.bool false) (Value.bool false) (Value.agg #[Value.int IntKind.i64 bs, Value.slice c1 cn c2, Value.slice u1 un u2]) (Value.slice a1 an a2) (Value.bool true) (Value.bool false) (Value.bool false) (Value.bool false) (Value.slice l1 ln l2) (Value.int IntKind.i64 ↑ln) (Value.bool false) (Value.bool false) (Value.bool false) (Value.agg #[Value.int IntKind.i64 bs, Value.slice c1 cn c2, Value.slice u1 un u2]) (Value.slice l1 ln l2) (Value.bool true) (Value.bool false) (Value.bool false) (undef) (Value.agg #[Value.int IntKind.i64 bs, Value.slice c1 cn c2, Value.slice u1 un u2]) (wov bs (Value.slice qa qn qc) (Value.slice qd qm qe)) (Value.slice a1 an a2) (Value.slice ra an rc) (Value.pointer (some { block := N + 1, off := 0 })) (Value.int IntKind.i64 hk) (Value.pointer (some { block := N + 1, off := 1 })) (Value.int IntKind.i64 hi) (Value.agg #[Value.int IntKind.i64 hk, Value.int IntKind.i64 hi]) (Value.tuple #[tv (Value.slice d1 d2 d3) T1.base, Value.int IntKind.i64 10]) (Value.agg #[Value.int IntKind.i64 bs, Value.slice qa qn qc, Value.slice qd qm qe]) (Value.slice ra an rc) (Value.agg #[Value.int IntKind.i64 hk, Value.int IntKind.i64 hi]) (Value.tuple #[tv (Value.slice d1 d2 d3) T1.base, Value.int IntKind.i64 10]) (tv (Value.slice d1 d2 d3) T1.base) (Value.int IntKind.i64 10) (undef) (undef) (undef) (undef) (undef) (undef) (undef) (undef) (undef) (undef) (undef) (undef) (undef) (undef) (undef) (undef) (undef) (undef) (undef) (undef) (undef) (undef) (undef) (undef) (undef) (undef) (undef) (undef) (undef) (undef) (undef) (undef) (undef) (undef) (undef) (undef) (undef) (undef) (undef) (undef) (undef) (undef) (undef) (undef) (undef) (undef) (undef) (undef) (undef) (undef) (undef) (undef) (fun | 58 => undef | 59 => undef | 60 => undef | 61 => undef | 62 => undef | 63 => undef | 64 => undef | 65 => undef | 66 => undef | 67 => undef | 68 => undef | 69 => undef | 70 => undef | 71 => undef | 72 => undef | 73 => undef | 74 => undef | 75 => undef | 76 => undef | _ => undef)) v8
      refine region_spine [(0, 0), (1, 0), (2, 0), (3, 0), (4, 0), (5, 0), (6, 0), (7, 0), (8, 0), (9, 0), (10, 0), (11, 0), (12, 0), (13, 0), (14, 0), (15, 0), (16, 0), (17, 0), (18, 0)] [] (fun s => Nat.ble 58 s && Nat.ble s 76) (fun _ => VW6 ) (fun _ w => Below (v8).heap.size v8 w) (by kernel_rfl) (by kernel_rfl) (by kernel_rfl) (by kernel_rfl) (fun _ _ _ _ _ h hb => h.mono hb) (fun _ _ _ h hb => h.trans (hb.mono h.size)) ((Below.refl _ _).drew) ⟨?_, ?_, ?_, ?_, ?_, ?_, ?_, ?_, ?_, ?_, ?_, ?_, ?_, ?_, ?_, ?_, ?_, ?_, ?_, trivial⟩ trivial ?_
      · intro o ho p hp _ z w hB hk K' hK
        cases ho
        have hK3 := hK (.int .i64 10) w (fun s hs => by cases hs; exact rfl) (Below.refl _ _)
        simp only [over_actW6] at hK3 ⊢
        clear hK hk
        unfold actW6 at hK3 ⊢
        refine want_plain rfl ?_
        go_simp
        exact hK3
      · intro o ho p hp _ z w hB hk K' hK
        cases ho
        have e58 : z 58 = .int .i64 10 := hk 58 (by decide +kernel) rfl
        have hK3 := hK (.bool false) w (fun s hs => by cases hs; exact rfl) (Below.refl _ _)
        simp only [over_actW6] at hK3 ⊢
        clear hK hk
        unfold actW6 at hK3 ⊢
        simp only [e58] at hK3 ⊢
        refine want_plain rfl ?_
        go_simp
        exact hK3
      · intro o ho p hp _ z w hB hk K' hK
        cases ho
        have e59 : z 59 = .bool false := hk 59 (by decide +kernel) rfl
        have hK3 := hK (.bool false) w (fun s hs => by cases hs; exact rfl) (Below.refl _ _)
        simp only [over_actW6] at hK3 ⊢
        clear hK hk
        unfold actW6 at hK3 ⊢
        simp only [e59] at hK3 ⊢
        refine want_plain rfl ?_
        go_simp
        exact hK3
      · intro o ho p hp _ z w hB hk K' hK
        cases ho
        have e60 : z 60 = .bool false := hk 60 (by decide +kernel) rfl
        have hK3 := hK undef w (fun s hs => by cases hs; exact rfl) (Below.refl _ _)
        simp only [over_actW6] at hK3 ⊢
        clear hK hk
        unfold actW6 at hK3 ⊢
        simp only [e60] at hK3 ⊢
        refine want_no rfl (fun h => by cases (show (some false : Option Bool) = some true from h)) ⟨fun _ _ => trivial, hK3⟩
      · intro o ho p hp _ z w hB hk K' hK
        cases ho
        have e60 : z 60 = .bool false := hk 60 (by decide +kernel) rfl
        have hK3 := hK undef w (fun s hs => by cases hs; exact rfl) (Below.refl _ _)
        simp only [over_actW6] at hK3 ⊢
        clear hK hk
        unfold actW6 at hK3 ⊢
        simp only [e60] at hK3 ⊢
        refine want_no rfl (fun h => by cases (show (some false : Option Bool) = some true from h)) ⟨fun _ _ => trivial, hK3⟩
      · intro o ho p hp _ z w hB hk K' hK
        cases ho
        have e60 : z 60 = .bool false := hk 60 (by decide +kernel) rfl
        have hK3 := hK undef w (fun s hs => by cases hs; exact rfl) (Below.refl _ _)
        simp only [over_actW6] at hK3 ⊢
        clear hK hk
        unfold actW6 at hK3 ⊢
        simp only [e60] at hK3 ⊢
        refine want_no rfl (fun h => by cases (show (some false : Option Bool) = some true from h)) ⟨fun _ _ => trivial, hK3⟩
      · intro o ho p hp _ z w hB hk K' hK
        cases ho
        have e60 : z 60 = .bool false := hk 60 (by decide +kernel) rfl
        have hK3 := hK undef w (fun s hs => by cases hs; exact rfl) (Below.refl _ _)
        simp only [over_actW6] at hK3 ⊢
        clear hK hk
        unfold actW6 at hK3 ⊢
        simp only [e60] at hK3 ⊢
        refine want_no rfl (fun h => by cases (show (some false : Option Bool) = some true from h)) ⟨fun _ _ => trivial, hK3⟩
      · intro o ho p hp _ z w hB hk K' hK
        cases ho
        have e60 : z 60 = .bool false := hk 60 (by decide +kernel) rfl
        have hK3 := hK undef w (fun s hs => by cases hs; exact rfl) (Below.refl _ _)
        simp only [over_actW6] at hK3 ⊢
        clear hK hk
        unfold actW6 at hK3 ⊢
        simp only [e60] at hK3 ⊢
        refine want_no rfl (fun h => by cases (show (some false : Option Bool) = some true from h)) ⟨fun _ _ => trivial, hK3⟩
      · intro o ho p hp _ z w hB hk K' hK
        cases ho
        have e60 : z 60 = .bool false := hk 60 (by decide +kernel) rfl
        have e65 : z 65 = undef := hk 65 (by decide +kernel) rfl
        have hK3 := hK (.bool false) w (fun s hs => by cases hs; exact rfl) (Below.refl _ _)
        simp only [over_actW6] at hK3 ⊢
        clear hK hk
        unfold actW6 at hK3 ⊢
        simp only [e60, e65] at hK3 ⊢
        refine want_plain rfl ?_
        go_simp
        exact hK3
      · intro o ho p hp _ z w hB hk K' hK
        cases ho
        have e66 : z 66 = .bool false := hk 66 (by decide +kernel) rfl
        have hK3 := hK (.bool false) w (fun s hs => by cases hs; exact rfl) (Below.refl _ _)
        simp only [over_actW6] at hK3 ⊢
        clear hK hk
        unfold actW6 at hK3 ⊢
        simp only [e66] at hK3 ⊢
        refine want_plain rfl ?_
        go_simp
        exact hK3
      · intro o ho p hp _ z w hB hk K' hK
        cases ho
        have e67 : z 67 = .bool false := hk 67 (by decide +kernel) rfl
        have hK3 := hK undef w (fun s hs => by cases hs; exact rfl) (Below.refl _ _)
        simp only [over_actW6] at hK3 ⊢
        clear hK hk
        unfold actW6 at hK3 ⊢
        simp only [e67] at hK3 ⊢
        refine want_no rfl (fun h => by cases (show (some false : Option Bool) = some true from h)) ⟨fun _ _ => trivial, hK3⟩
      · intro o ho p hp _ z w hB hk K' hK
        cases ho
        have e67 : z 67 = .bool false := hk 67 (by decide +kernel) rfl
        have hK3 := hK undef w (fun s hs => by cases hs; exact rfl) (Below.refl _ _)
        simp only [over_actW6] at hK3 ⊢
        clear hK hk
        unfold actW6 at hK3 ⊢
        simp only [e67] at hK3 ⊢
        refine want_no rfl (fun h => by cases (show (some false : Option Bool) = some true from h)) ⟨fun _ _ => trivial, hK3⟩
      · intro o ho p hp _ z w hB hk K' hK
        cases ho
        have e67 : z 67 = .bool false := hk 67 (by decide +kernel) rfl
        have hK3 := hK undef w (fun s hs => by cases hs; exact rfl) (Below.refl _ _)
        simp only [over_actW6] at hK3 ⊢
        clear hK hk
        unfold actW6 at hK3 ⊢
        simp only [e67] at hK3 ⊢
        refine want_no rfl (fun h => by cases (show (some false : Option Bool) = some true from h)) ⟨fun _ _ => trivial, hK3⟩
      · intro o ho p hp _ z w hB hk K' hK
        cases ho
        have e67 : z 67 = .bool false := hk 67 (by decide +kernel) rfl
        have hK3 := hK undef w (fun s hs => by cases hs; exact rfl) (Below.refl _ _)
        simp only [over_actW6] at hK3 ⊢
        clear hK hk
        unfold actW6 at hK3 ⊢
        simp only [e67] at hK3 ⊢
        refine want_no rfl (fun h => by cases (show (some false : Option Bool) = some true from h)) ⟨fun _ _ => trivial, hK3⟩
      · intro o ho p hp _ z w hB hk K' hK
        cases ho
        have e67 : z 67 = .bool false := hk 67 (by decide +kernel) rfl
        have hK3 := hK undef w (fun s hs => by cases hs; exact rfl) (Below.refl _ _)
        simp only [over_actW6] at hK3 ⊢
        clear hK hk
        unfold actW6 at hK3 ⊢
        simp only [e67] at hK3 ⊢
        refine want_no rfl (fun h => by cases (show (some false : Option Bool) = some true from h)) ⟨fun _ _ => trivial, hK3⟩
      · intro o ho p hp _ z w hB hk K' hK
        cases ho
        have e67 : z 67 = .bool false := hk 67 (by decide +kernel) rfl
        have hK3 := hK undef w (fun s hs => by cases hs; exact rfl) (Below.refl _ _)
        simp only [over_actW6] at hK3 ⊢
        clear hK hk
        unfold actW6 at hK3 ⊢
        simp only [e67] at hK3 ⊢
        refine want_no rfl (fun h => by cases (show (some false : Option Bool) = some true from h)) ⟨fun _ _ => trivial, hK3⟩
      · intro o ho p hp _ z w hB hk K' hK
        cases ho
        have e67 : z 67 = .bool false := hk 67 (by decide +kernel) rfl
        have hK3 := hK undef w (fun s hs => by cases hs; exact rfl) (Below.refl _ _)
        simp only [over_actW6] at hK3 ⊢
        clear hK hk
        unfold actW6 at hK3 ⊢
        simp only [e67] at hK3 ⊢
        refine want_no rfl (fun h => by cases (show (some false : Option Bool) = some true from h)) ⟨fun _ _ => trivial, hK3⟩
      · intro o ho p hp _ z w hB hk K' hK
        cases ho
        have e67 : z 67 = .bool false := hk 67 (by decide +kernel) rfl
        have hK3 := hK undef w (fun s hs => by cases hs; exact rfl) (Below.refl _ _)
        simp only [over_actW6] at hK3 ⊢
        clear hK hk
        unfold actW6 at hK3 ⊢
        simp only [e67] at hK3 ⊢
        refine want_no rfl (fun h => by cases (show (some false : Option Bool) = some true from h)) ⟨fun _ _ => trivial, hK3⟩
      · intro o ho p hp _ z w hB hk K' hK
        cases ho
        have e67 : z 67 = .bool false := hk 67 (by decide +kernel) rfl
        have e75 : z 75 = undef := hk 75 (by decide +kernel) rfl
        have hK3 := hK (.bool false) w (fun s hs => by cases hs; exact rfl) (Below.refl _ _)
        simp only [over_actW6] at hK3 ⊢
        clear hK hk
        unfold actW6 at hK3 ⊢
        simp only [e67, e75] at hK3 ⊢
        refine want_plain rfl ?_
        go_simp
        exact hK3
      · intro z w' hB hv
        have e76 : z 76 = .bool false := hv 76 (by decide +kernel)
        rw [over_actW6]
        unfold actW6
        simp only [e76]
        go_wp2_with fail
        go_meet
        exact ⟨rfl, hB⟩
    | some h =>
      obtain rfl : h = T1 := hT1
      obtain rfl : n1 = 0 := by rw [← hn1]; rfl
      obtain ⟨he1, he2⟩ := eta_facts HO1.out hkf ⟨lc, lm, lx⟩ hT1s
      have hsz := h.size_eq
      have het := etaR_totalW hk hi h.args (by omega)
      obtain ⟨E, hE⟩ : ∃ E, etaR hk hi h.args = E := ⟨_, rfl⟩
      have k47 : ∀ cur, Cur v8 cur → Calls Try.prog 47 #[hv hk hi, tv (.slice d1 d2 d3) h.base] cur fun e w' => ∃ a n c a' n' c', e = .returned (tmv (.slice a n c) E.kind E.idx (.slice a' n' c')) ∧ Holds w' okT E.binds (.slice a n c) ∧ HoldsT w' okT E.args (.slice a' n' c') ∧ Cur v8 w' := fun cur hcu =>
        (Eta_calls hk hi h _ cur (hcu.holds hd) (by omega)).mono fun e w' ⟨vb, vr, h1, h2, h3, h4⟩ => by
          rw [hE] at h1 h2 h3
          obtain ⟨a, c, rfl, _⟩ := h2.shape
          obtain ⟨a', c', rfl, _⟩ := h3.shape
          exact ⟨a, _, c, a', _, c', h1, h2.t, h3.mono fun _ _ _ => trivial, hcu.then h4⟩
      have hEz : E.size ≤ 5000 := by rw [← hE, he1, etaK_size]; omega
      have hEr : E.rng := by rw [← hE, he1]; exact he2
      have hEc : chkI cs ms ctx E h = 0 := by
        unfold chkI
        rw [← hE, he1, eta_right hT1s, eta_is cs ms h ctx hk hi HO1.out]
        rfl
      rw [hE] at het
      have k14 : ∀ cur a n c a' n' c', Cur v8 cur → Holds cur okT E.binds (.slice a n c) → HoldsT cur okT E.args (.slice a' n' c') → Calls Try.prog 14 #[tmv (.slice a n c) E.kind E.idx (.slice a' n' c')] cur fun e w' => e = .returned (.int .i64 (E.size : Int)) ∧ Cur v8 w' := fun cur a n c a' n' c' hcu h1 h2 =>
        Calls.cur hcu (SizeH_calls E okT _ _ cur h1 h2 (by omega))
      have k40 : ∀ cur a n c a' n' c', Cur v8 cur → Holds cur okT E.binds (.slice a n c) → HoldsT cur okT E.args (.slice a' n' c') → Calls Try.prog 40 #[wov bs (.slice qa qn qc) (.slice qd qm qe), .slice ra an rc, tmv (.slice a n c) E.kind E.idx (.slice a' n' c'), tv (.slice d1 d2 d3) h.base] cur fun e w' => e = .returned (.int .i64 0) ∧ Cur v8 w' := fun cur a n c a' n' c' hcu h1 h2 => by
        have := Calls.cur hcu (Check_calls cs ms ctx E h bs _ _ _ _ _ _ cur (hcu.holds hgc) (hcu.holds hgm) (hcu.holds hgx) h1 h2 (hcu.holds hd) hEr (by omega))
        rwa [hEc] at this
      have zle : decide ((E.size : Int) ≤ 5000) = true := decide_eq_true (by omega)
      clear hE he1 he2 het hsz hEz hEr hEc
      first
        | (go_region_held_law (fun v => v.cell? ⟨A, 0, none⟩ = some (.int .i64 bs) ∧ v.cell? ⟨A, 1, none⟩ = some (.slice qa qn qc) ∧ v.cell? ⟨A, 2, none⟩ = some (.slice qd qm qe) ∧ v.cell? ⟨B, 0, none⟩ = some (.int .i64 hk) ∧ v.cell? ⟨B, 1, none⟩ = some (.int .i64 hi) ∧ v.cell? ⟨D, 0, none⟩ = some (.slice d1 d2 d3) ∧ v.cell? ⟨D, 1, none⟩ = some (.int .i64 h.base))
            (first | exact hK6 _ (by first | with_reducible assumption | (with_reducible refine Cur.drew ?_; assumption)))
            (first
              | (go_at_call 47; have _ := hs1; refine (k47 _ (by first | with_reducible assumption | (with_reducible refine Cur.drew ?_; assumption))).mono ?_; rintro e V3 ⟨ea, en, ec, fa, fn', fc, rfl, he3, he4, j3⟩)
              | (go_at_call 47; refine (k47 _ (by first | with_reducible assumption | (with_reducible refine Cur.drew ?_; assumption))).mono ?_; rintro e V1 ⟨ga, gn, gc, ha, hn, hcp, rfl, hg3, hg4, j1⟩)
              | (go_at_call 14; refine (k14 _ _ _ _ _ _ _ (by first | with_reducible assumption | (with_reducible refine Cur.drew ?_; assumption)) hg3 hg4).mono ?_; rintro e V2 ⟨rfl, j2⟩; have hs1 := trivial)
              | (go_at_call 40; refine (k40 _ _ _ _ _ _ _ (by first | with_reducible assumption | (with_reducible refine Cur.drew ?_; assumption)) he3 he4).mono ?_; rintro e V4 ⟨rfl, j4⟩)))
        | fail
      go_wp2_with fail
      go_meet
      exact ⟨rfl, by first | assumption | exact Cur.drew hcur⟩
  case rest =>
  obtain ⟨rfl, hbc⟩ := hcut

  have hcw : Cur v8 wc := hbc
  have hgc := hcw.holds hgc
  have hgm := hcw.holds hgm
  have hgx := hcw.holds hgx
  have ax := hcw.holds ax
  have al := hcw.holds al
  have ab := hcw.holds ab
  have ar := ar.bel hcw
  have hKw : ∀ v, Cur wc v → v.cell? ⟨A, 0, none⟩ = some (.int .i64 bs) ∧ v.cell? ⟨A, 1, none⟩ = some (.slice qa qn qc) ∧ v.cell? ⟨A, 2, none⟩ = some (.slice qd qm qe) ∧ v.cell? ⟨N + 1 + 1, 0, none⟩ = some (.slice x1 x2 x3) ∧ v.cell? ⟨N + 1 + 1, 1, none⟩ = some (.int .i64 t.kind) ∧ v.cell? ⟨N + 1 + 1, 2, none⟩ = some (.int .i64 t.idx) ∧ v.cell? ⟨N + 1 + 1, 3, none⟩ = some (.slice y1 y2 y3) := fun v hv => hK8 v (hcw.then hv)
  have bl9 : Below N w wc := bl8.trans (Below.mono hcw hz8)
  have hz9 : N ≤ wc.heap.size := by have := Below.size hcw; omega
  have hii : t.idx ≤ 9223372036854775807 := (((t.rng_eq).1 hrg).1.2).2
  have hbl := sizeL_length t.binds
  have htt2 := t.total_eq
  clear hK6 hK8 hd hbc hcw bl8 hz8 hcur hT1s hT1 hn1 HO1
  generalize wc = w9 at *
  obtain ⟨o2, ho2⟩ : ∃ o, t.typeOf cs ms ctx = o := ⟨_, rfl⟩
  obtain ⟨T2, hT2⟩ : ∃ T, o2.getD (.mk [] 0) = T := ⟨_, rfl⟩
  obtain ⟨n2, hn2⟩ : ∃ n : Int, (if o2.isSome then 0 else 10) = n := ⟨_, rfl⟩
  have HO2 : Hid _ := ho2
  have l11 : ∀ cur, Cur w9 cur → Calls Try.prog 11 #[tmv (.slice x1 x2 x3) t.kind t.idx (.slice y1 y2 y3)] cur fun e w' => ∃ a n c a' n' c', e = .returned (tmv (.slice a n c) t.kind t.idx (.slice a' n' c')) ∧ Holds w' okT t.binds (.slice a n c) ∧ HoldsT w' okT t.args (.slice a' n' c') ∧ Below cur.heap.size cur w' ∧ Cur w9 w' := fun cur hcu =>
    (ToT_calls t okT _ _ cur (hcu.holds ab) (ar.bel hcu) (by omega)).mono fun e w' ⟨vb, vr, h1, h2, h3, h4⟩ => by
      obtain ⟨a, c, rfl, _⟩ := h2.shape
      obtain ⟨a', c', rfl, _⟩ := h3.shape
      exact ⟨a, _, c, a', _, c', h1, h2.t, h3.mono fun _ _ _ => trivial, h4, hcu.then h4⟩
  have l36 : ∀ cur, Cur w9 cur → ∀ a n c a' n' c', Holds cur okT t.binds (.slice a n c) → HoldsT cur okT t.args (.slice a' n' c') → Calls Try.prog 36 #[wov bs (.slice qa qn qc) (.slice qd qm qe), .slice ra an rc, tmv (.slice a n c) t.kind t.idx (.slice a' n' c')] cur fun e w' => ∃ g1 g2 g3, e = .returned (.tuple #[tv (.slice g1 g2 g3) T2.base, .int .i64 n2]) ∧ Holds w' (fun b => cur.heap.size ≤ b) T2.args (.slice g1 g2 g3) ∧ Below cur.heap.size cur w' ∧ Cur w9 w' := fun cur hcu a n c a' n' c' h1 h2 =>
    (TypeOf_fresh cs ms ctx t bs _ _ _ _ _ cur (hcu.holds hgc) (hcu.holds hgm) (hcu.holds hgx) h1 h2 (by omega) hii (by omega)).mono fun e w' ⟨hf, h4⟩ => by
      rw [ho2] at hf
      obtain ⟨g1, g2, g3, h5, h6⟩ := toldF_uni hf
      rw [hT2] at h5 h6
      rw [hn2] at h6
      exact ⟨g1, g2, g3, h6, h5, h4, hcu.then h4⟩
  go_upto_region 8 with fail
  go_cut [16, 17] (fun s16 s17 wx => ∃ (F : Nat) (g1 : Option Addr) (g2 g3 : Nat), s16 = .pointer (some ⟨F, 0, none⟩) ∧ s17 = .int .i64 n2 ∧ Blk wx F 63 #[.slice g1 g2 g3, .int .i64 T2.base] ∧ Holds wx okT T2.args (.slice g1 g2 g3) ∧ Below w9.heap.size w9 wx)
  case first =>
    have hZ : Blk (w9.alloc (.cells #[.slice none 0 0, .int .i64 0] 63)).drew w9.heap.size 63 #[.slice none 0 0, .int .i64 0] := Blk.new w9 63 _
    have hzz : w9.heap.size ≤ w9.heap.size := Nat.le_refl _
    have hzy := hzz
    have hcur := Cur.refl w9
    clear HO2 ho2 hT2 hn2 ax al
    go_region_held3 (fun v => v.cell? ⟨A, 0, none⟩ = some (.int .i64 bs) ∧ v.cell? ⟨A, 1, none⟩ = some (.slice qa qn qc) ∧ v.cell? ⟨A, 2, none⟩ = some (.slice qd qm qe) ∧ v.cell? ⟨N + 1 + 1, 0, none⟩ = some (.slice x1 x2 x3) ∧ v.cell? ⟨N + 1 + 1, 1, none⟩ = some (.int .i64 t.kind) ∧ v.cell? ⟨N + 1 + 1, 2, none⟩ = some (.int .i64 t.idx) ∧ v.cell? ⟨N + 1 + 1, 3, none⟩ = some (.slice y1 y2 y3))
      (first | with_reducible exact hKw _ (by first | with_reducible assumption | (with_reducible refine Cur.drew ?_; assumption) | (with_reducible refine Cur.alloc ?_ _; assumption) | (with_reducible refine Cur.drew (Cur.alloc ?_ _); assumption) | (with_reducible refine Cur.alloc (Cur.drew ?_) _; assumption) | (with_reducible refine Cur.alloc (Cur.alloc ?_ _) _; assumption) | (with_reducible refine Cur.alloc (Cur.alloc (Cur.drew ?_) _) _; assumption) | (with_reducible refine Cur.alloc (Cur.drew (Cur.alloc ?_ _)) _; assumption) | (with_reducible refine Cur.drew (Cur.alloc (Cur.alloc ?_ _) _); assumption) | (with_reducible refine Cur.set (Cur.set ?_ hzz _ _) hzz _ _; assumption) | (with_reducible refine Cur.set (Cur.set ?_ hzy _ _) hzy _ _; assumption)))
      (first
        | (go_at_call 11; refine (l11 _ (by first | with_reducible assumption | (with_reducible refine Cur.drew ?_; assumption) | (with_reducible refine Cur.alloc ?_ _; assumption) | (with_reducible refine Cur.drew (Cur.alloc ?_ _); assumption) | (with_reducible refine Cur.alloc (Cur.drew ?_) _; assumption) | (with_reducible refine Cur.alloc (Cur.alloc ?_ _) _; assumption) | (with_reducible refine Cur.alloc (Cur.alloc (Cur.drew ?_) _) _; assumption) | (with_reducible refine Cur.alloc (Cur.drew (Cur.alloc ?_ _)) _; assumption) | (with_reducible refine Cur.drew (Cur.alloc (Cur.alloc ?_ _) _); assumption) | (with_reducible refine Cur.set (Cur.set ?_ hzz _ _) hzz _ _; assumption) | (with_reducible refine Cur.set (Cur.set ?_ hzy _ _) hzy _ _; assumption))).mono ?_; rintro e V1 ⟨ga, gn, gc, ha, hn, hcp, rfl, hg3, hg4, hb1, hc1⟩; have hzy : w9.heap.size ≤ V1.heap.size := Below.size hc1; have hY := Blk.new V1 63 #[.slice none 0 0, .int .i64 0]; try (with_reducible have bA := hZ.below hb1 hZ.lt))
        | (go_at_call 36; refine (l36 _ (by first | with_reducible assumption | (with_reducible refine Cur.drew ?_; assumption) | (with_reducible refine Cur.alloc ?_ _; assumption) | (with_reducible refine Cur.drew (Cur.alloc ?_ _); assumption) | (with_reducible refine Cur.alloc (Cur.drew ?_) _; assumption) | (with_reducible refine Cur.alloc (Cur.alloc ?_ _) _; assumption) | (with_reducible refine Cur.alloc (Cur.alloc (Cur.drew ?_) _) _; assumption) | (with_reducible refine Cur.alloc (Cur.drew (Cur.alloc ?_ _)) _; assumption) | (with_reducible refine Cur.drew (Cur.alloc (Cur.alloc ?_ _) _); assumption) | (with_reducible refine Cur.set (Cur.set ?_ hzz _ _) hzz _ _; assumption) | (with_reducible refine Cur.set (Cur.set ?_ hzy _ _) hzy _ _; assumption)) _ _ _ _ _ _ (by first | with_reducible exact hg3 | with_reducible exact hg3.alloc _) (by first | with_reducible exact hg4 | with_reducible exact hg4.alloc _)).mono ?_; rintro e V2 ⟨fa, fn', fc, rfl, hfo, hb2, hc2⟩; try (first | (with_reducible have bR := bA.below hb2 bA.lt) | (with_reducible have bR := hY.below hb2 hY.lt)); try (have r0 := bR.cell 0; have r1 := bR.cell 1; have g0 := bR.frozen 0; have g1 := bR.frozen 1)))
    · go_wp2_with fail
      go_meet
      exact ⟨V2.heap.size, fa, fn', fc, rfl, rfl, Blk.new V2 63 _, hfo.t.alloc _, hc2.alloc _⟩
    · go_wp2_with fail
      go_meet
      exact ⟨V1.heap.size, fa, fn', fc, rfl, rfl, (bR.set 0 _).set 1 _, (holds_set2 (ok' := okT) hfo (fun b _ ho => ⟨by have h9 : (V1.alloc _).heap.size ≤ b := ho; simp at h9; omega, trivial⟩) _ _ _ _), (hc2.set hzy 0 _).set hzy 1 _⟩
    · go_wp2_with fail
      go_meet
      exact ⟨w9.heap.size, fa, fn', fc, rfl, rfl, (bR.set 0 _).set 1 _, (holds_set2 (ok' := okT) hfo (fun b _ ho => ⟨by have h8 := hb1.size; have h9 : V1.heap.size ≤ b := ho; have h7 : (w9.alloc (.cells #[.slice none 0 0, .int .i64 0] 63)).heap.size ≤ V1.heap.size := h8; simp at h7; omega, trivial⟩) _ _ _ _), (hc2.set hzz 0 _).set hzz 1 _⟩
  case rest =>
  obtain ⟨F, g1, g2, g3, rfl, rfl, bF, hgh, hbc⟩ := hcut
  have hcx : Cur w9 wc := hbc
  have hgc := hcx.holds hgc
  have hgm := hcx.holds hgm
  have hgx := hcx.holds hgx
  have ax := hcx.holds ax
  have al := hcx.holds al
  have ab := hcx.holds ab
  have ar := ar.bel hcx
  have F0 := bF.cell 0
  have F1 := bF.cell 1
  have hK9 : ∀ v, Cur wc v → v.cell? ⟨A, 0, none⟩ = some (.int .i64 bs) ∧ v.cell? ⟨A, 1, none⟩ = some (.slice qa qn qc) ∧ v.cell? ⟨A, 2, none⟩ = some (.slice qd qm qe) ∧ v.cell? ⟨N + 1 + 1, 0, none⟩ = some (.slice x1 x2 x3) ∧ v.cell? ⟨N + 1 + 1, 1, none⟩ = some (.int .i64 t.kind) ∧ v.cell? ⟨N + 1 + 1, 2, none⟩ = some (.int .i64 t.idx) ∧ v.cell? ⟨N + 1 + 1, 3, none⟩ = some (.slice y1 y2 y3) ∧ v.cell? ⟨F, 0, none⟩ = some (.slice g1 g2 g3) ∧ v.cell? ⟨F, 1, none⟩ = some (.int .i64 T2.base) := fun v hv => by
    obtain ⟨q0, q1, q2, q3, q4, q5, q6⟩ := hKw v (hcx.then hv)
    exact ⟨q0, q1, q2, q3, q4, q5, q6, hv.cell F0, hv.cell F1⟩
  have bl10 : Below N w wc := bl9.trans (Below.mono hcx hz9)
  have hz10 : N ≤ wc.heap.size := by have := Below.size hcx; omega
  clear l11 l36 hKw F0 F1 bF hbc hcx bl9 hz9 ho2
  generalize wc = w10 at *
  have m11 : ∀ cur, Cur w10 cur → Calls Try.prog 11 #[tmv (.slice x1 x2 x3) t.kind t.idx (.slice y1 y2 y3)] cur fun e w' => ∃ a n c a' n' c', e = .returned (tmv (.slice a n c) t.kind t.idx (.slice a' n' c')) ∧ Holds w' okT t.binds (.slice a n c) ∧ HoldsT w' okT t.args (.slice a' n' c') ∧ Cur w10 w' := fun cur hcu =>
    (ToT_calls t okT _ _ cur (hcu.holds ab) (ar.bel hcu) (by omega)).mono fun e w' ⟨vb, vr, h1, h2, h3, h4⟩ => by
      obtain ⟨a, c, rfl, _⟩ := h2.shape
      obtain ⟨a', c', rfl, _⟩ := h3.shape
      exact ⟨a, _, c, a', _, c', h1, h2.t, h3.mono fun _ _ _ => trivial, hcu.then h4⟩
  have hcur := Cur.refl w10
  go_upto_region 9 with fail
  cases o2 with
  | none =>
    obtain rfl : n2 = 10 := by rw [← hn2]; rfl
    rename_i K Q' hKs
    refine (wpIn_wide (n := 9)).1 ?_
    show Code.wpIn Fence.wide 9 Try.prog (Code.region 9 _ true) _ (actW9  (wov bs (Value.slice c1 cn c2) (Value.slice u1 un u2)) (Value.slice a1 an a2) (Value.slice l1 ln l2) (hv hk hi) (tmv (Value.slice x1 x2 x3) t.kind t.idx (Value.slice y1 y2 y3)) (Value.pointer (some { block := N, off := 0 })) (undef) (undef) (Value.pointer (some { block := N + 1, off := 0 })) (Value.pointer (some { block := N + 1 + 1, off := 0 })) (Value.bool false) (Value.pointer (some { block := A, off := 0 })) (Value.slice ra an rc) (Value.pointer (some { block := B, off := 0 })) (Value.pointer (some { block := D, off := 0 })) (Value.int IntKind.i64 n1) (Value.pointer (some { block := F, off := 0 })) (undef) (undef) (u20) (u21) (u22) (u23) (u24) (u25) (u26) (u27) (u28) (u29) (u30) (u31) (u32) (u33) (u34) (u35) (u36) (u37) (u38) (u39) (u40) (u41) (u42) (u43) (u44) (u45) (u46) (u47) (u48) (u49) (u50) (u51) (u52) (u53) (u54) (u55) (u56) (u57) (u58) (u59) (u60) (u61) (u62) (u63) (u64) (u65) (u66) (u67) (u68) (u69) (u70) (u71) (u72) (u73) (u74) (u75) (u76) (u77) (u78) (u79) (u80) (u81) (u82) (u83) (u84) (u96) (u97) (u98) (u99) (u100) (u101) (u102) (u103) (u104) (u105) (u106) (u107) (u108) (u109) (u110) (u111) (u112) (u113) (u114) (u115) (u116) (u117) (u118) (u119) (u120) (u121) (u122) (u123) (u124) (u125) (u126) (u127) (u128) (fun | 85 => u85 | 86 => u86 | 87 => u87 | 88 => u88 | 89 => u89 | 90 => u90 | 91 => u91 | 92 => u92 | 93 => u93 | 94 => u94 | 95 => u95 | _ => undef)) w10
    refine region_spine [(0, 0), (1, 0), (2, 0), (3, 0), (4, 0), (5, 0), (6, 0), (7, 0), (8, 0), (9, 0), (10, 0)] [] (fun s => Nat.ble 85 s && Nat.ble s 95) (fun _ => VW9 ) (fun _ w => Below (w10).heap.size w10 w) (by kernel_rfl) (by kernel_rfl) (by kernel_rfl) (by kernel_rfl) (fun _ _ _ _ _ h hb => h.mono hb) (fun _ _ _ h hb => h.trans (hb.mono h.size)) ((Below.refl _ _).drew) ⟨?_, ?_, ?_, ?_, ?_, ?_, ?_, ?_, ?_, ?_, ?_, trivial⟩ trivial ?_
    · intro o ho p hp _ z w hB hk K' hK
      cases ho
      have hK3 := hK (.int .i64 10) w (fun s hs => by cases hs; exact rfl) (Below.refl _ _)
      simp only [over_actW9] at hK3 ⊢
      clear hK hk
      unfold actW9 at hK3 ⊢
      refine want_plain rfl ?_
      go_simp
      exact hK3
    · intro o ho p hp _ z w hB hk K' hK
      cases ho
      have e85 : z 85 = .int .i64 10 := hk 85 (by decide +kernel) rfl
      have hK3 := hK (.bool true) w (fun s hs => by cases hs; exact rfl) (Below.refl _ _)
      simp only [over_actW9] at hK3 ⊢
      clear hK hk
      unfold actW9 at hK3 ⊢
      simp only [e85] at hK3 ⊢
      refine want_plain rfl ?_
      go_simp
      exact hK3
    · intro o ho p hp _ z w hB hk K' hK
      cases ho
      have e86 : z 86 = .bool true := hk 86 (by decide +kernel) rfl
      have hK3 := hK (.bool true) w (fun s hs => by cases hs; exact rfl) (Below.refl _ _)
      simp only [over_actW9] at hK3 ⊢
      clear hK hk
      unfold actW9 at hK3 ⊢
      simp only [e86] at hK3 ⊢
      refine want_plain rfl ?_
      go_simp
      exact hK3
    · intro o ho p hp _ z w hB hk K' hK
      cases ho
      have e87 : z 87 = .bool true := hk 87 (by decide +kernel) rfl
      have hK3 := hK undef w (fun s hs => by cases hs; exact rfl) (Below.refl _ _)
      simp only [over_actW9] at hK3 ⊢
      clear hK hk
      unfold actW9 at hK3 ⊢
      simp only [e87] at hK3 ⊢
      refine want_no rfl (fun h => by cases (show (some true : Option Bool) = some false from h)) ⟨fun _ _ => trivial, hK3⟩
    · intro o ho p hp _ z w hB hk K' hK
      cases ho
      have e87 : z 87 = .bool true := hk 87 (by decide +kernel) rfl
      have hK3 := hK undef w (fun s hs => by cases hs; exact rfl) (Below.refl _ _)
      simp only [over_actW9] at hK3 ⊢
      clear hK hk
      unfold actW9 at hK3 ⊢
      simp only [e87] at hK3 ⊢
      refine want_no rfl (fun h => by cases (show (some true : Option Bool) = some false from h)) ⟨fun _ _ => trivial, hK3⟩
    · intro o ho p hp _ z w hB hk K' hK
      cases ho
      have e87 : z 87 = .bool true := hk 87 (by decide +kernel) rfl
      have hK3 := hK undef w (fun s hs => by cases hs; exact rfl) (Below.refl _ _)
      simp only [over_actW9] at hK3 ⊢
      clear hK hk
      unfold actW9 at hK3 ⊢
      simp only [e87] at hK3 ⊢
      refine want_no rfl (fun h => by cases (show (some true : Option Bool) = some false from h)) ⟨fun _ _ => trivial, hK3⟩
    · intro o ho p hp _ z w hB hk K' hK
      cases ho
      have e87 : z 87 = .bool true := hk 87 (by decide +kernel) rfl
      have hK3 := hK undef w (fun s hs => by cases hs; exact rfl) (Below.refl _ _)
      simp only [over_actW9] at hK3 ⊢
      clear hK hk
      unfold actW9 at hK3 ⊢
      simp only [e87] at hK3 ⊢
      refine want_no rfl (fun h => by cases (show (some true : Option Bool) = some false from h)) ⟨fun _ _ => trivial, hK3⟩
    · intro o ho p hp _ z w hB hk K' hK
      cases ho
      have e87 : z 87 = .bool true := hk 87 (by decide +kernel) rfl
      have hK3 := hK undef w (fun s hs => by cases hs; exact rfl) (Below.refl _ _)
      simp only [over_actW9] at hK3 ⊢
      clear hK hk
      unfold actW9 at hK3 ⊢
      simp only [e87] at hK3 ⊢
      refine want_no rfl (fun h => by cases (show (some true : Option Bool) = some false from h)) ⟨fun _ _ => trivial, hK3⟩
    · intro o ho p hp _ z w hB hk K' hK
      cases ho
      have e87 : z 87 = .bool true := hk 87 (by decide +kernel) rfl
      have hK3 := hK undef w (fun s hs => by cases hs; exact rfl) (Below.refl _ _)
      simp only [over_actW9] at hK3 ⊢
      clear hK hk
      unfold actW9 at hK3 ⊢
      simp only [e87] at hK3 ⊢
      refine want_no rfl (fun h => by cases (show (some true : Option Bool) = some false from h)) ⟨fun _ _ => trivial, hK3⟩
    · intro o ho p hp _ z w hB hk K' hK
      cases ho
      have e87 : z 87 = .bool true := hk 87 (by decide +kernel) rfl
      have hK3 := hK undef w (fun s hs => by cases hs; exact rfl) (Below.refl _ _)
      simp only [over_actW9] at hK3 ⊢
      clear hK hk
      unfold actW9 at hK3 ⊢
      simp only [e87] at hK3 ⊢
      refine want_no rfl (fun h => by cases (show (some true : Option Bool) = some false from h)) ⟨fun _ _ => trivial, hK3⟩
    · intro o ho p hp _ z w hB hk K' hK
      cases ho
      have e87 : z 87 = .bool true := hk 87 (by decide +kernel) rfl
      have e94 : z 94 = undef := hk 94 (by decide +kernel) rfl
      have hK3 := hK (.bool true) w (fun s hs => by cases hs; exact rfl) (Below.refl _ _)
      simp only [over_actW9] at hK3 ⊢
      clear hK hk
      unfold actW9 at hK3 ⊢
      simp only [e87, e94] at hK3 ⊢
      refine want_plain rfl ?_
      go_simp
      exact hK3
    · intro z w' hB hv
      have e95 : z 95 = .bool true := hv 95 (by decide +kernel)
      rw [over_actW9]
      refine hKs _ _ ?_
      unfold actW9
      simp only [e95]
      have hc9 : Cur w10 w' := hB
      go_wp2_with fail
      refine (known_calls _).mono ?_
      rintro e w4 ⟨rfl, hb4⟩
      go_wp2
      go_ret
      exact ⟨rfl, bl10.trans (Below.mono (hc9.then hb4) hz10)⟩
  | some p2 =>
    obtain rfl : T2 = p2 := hT2.symm
    obtain rfl : n2 = 0 := by rw [← hn2]; rfl
    obtain ⟨e2, he2⟩ : ∃ e, chkI cs ms ctx t T2 = e := ⟨_, rfl⟩
    have k40 : ∀ cur a n c a' n' c', Cur w10 cur → Holds cur okT t.binds (.slice a n c) → HoldsT cur okT t.args (.slice a' n' c') → Calls Try.prog 40 #[wov bs (.slice qa qn qc) (.slice qd qm qe), .slice ra an rc, tmv (.slice a n c) t.kind t.idx (.slice a' n' c'), tv (.slice g1 g2 g3) T2.base] cur fun e w' => e = .returned (.int .i64 e2) ∧ Cur w10 w' := fun cur a n c a' n' c' hcu h1 h2 => by
      have := Calls.cur hcu (Check_calls cs ms ctx t T2 bs _ _ _ _ _ _ cur (hcu.holds hgc) (hcu.holds hgm) (hcu.holds hgx) h1 h2 (hcu.holds hgh) hrg (by omega))
      rwa [he2] at this
    obtain ⟨z, hz⟩ : ∃ z, (e2 != 0) = z := ⟨_, rfl⟩
    have HE2 : Hid _ := he2
    clear he2
    first
      | (go_region_held_law (fun v => v.cell? ⟨A, 0, none⟩ = some (.int .i64 bs) ∧ v.cell? ⟨A, 1, none⟩ = some (.slice qa qn qc) ∧ v.cell? ⟨A, 2, none⟩ = some (.slice qd qm qe) ∧ v.cell? ⟨N + 1 + 1, 0, none⟩ = some (.slice x1 x2 x3) ∧ v.cell? ⟨N + 1 + 1, 1, none⟩ = some (.int .i64 t.kind) ∧ v.cell? ⟨N + 1 + 1, 2, none⟩ = some (.int .i64 t.idx) ∧ v.cell? ⟨N + 1 + 1, 3, none⟩ = some (.slice y1 y2 y3) ∧ v.cell? ⟨F, 0, none⟩ = some (.slice g1 g2 g3) ∧ v.cell? ⟨F, 1, none⟩ = some (.int .i64 T2.base))
          (first | exact hK9 _ (by first | with_reducible assumption | (with_reducible refine Cur.drew ?_; assumption)))
          (first
            | (go_at_call 11; refine (m11 _ (by first | with_reducible assumption | (with_reducible refine Cur.drew ?_; assumption))).mono ?_; rintro e V1 ⟨ga, gn, gc, ha, hn, hcp, rfl, hg3, hg4, j1⟩)
            | (go_at_call 40; refine (k40 _ _ _ _ _ _ _ (by first | with_reducible assumption | (with_reducible refine Cur.drew ?_; assumption)) hg3 hg4).mono ?_; rintro e V2 ⟨rfl, j2⟩)))
      | fail
    clear k40 hg3 hg4
    cases z with
    | true =>
      go_wp2_with fail
      refine (known_calls _).mono ?_
      rintro e w4 ⟨rfl, hb4⟩
      go_wp2
      go_ret
      exact ⟨rfl, bl10.trans (Below.mono (j2.then hb4) hz10)⟩
    | false =>
      have hz0 : e2 = 0 := by simpa using hz
      have hok : rightTB t = true ∧ t.is cs ms ctx T2 = true := by
        have h9 := HE2.out
        rw [hz0] at h9
        unfold chkI at h9
        cases hr9 : rightTB t with
        | false => rw [hr9] at h9; simp at h9
        | true =>
          cases hi9 : t.is cs ms ctx T2 with
          | false => rw [hr9, hi9] at h9; simp at h9
          | true => exact ⟨rfl, rfl⟩
      have hsh := shift_ok hok.2 lx hlm
      have hst : shiftT mo.length 0 t = shT mo.length 0 0 t := by unfold shiftT; rw [if_pos hsh]
      have hgr := (grows_of hrg (by omega) hsh).2
      have hsr := shT_rng mo.length 0 t 1 0 hrg hgr
      have hss := shT_sizes mo.length 0 t 0
      have hsi : (shT mo.length 0 0 t).is cs ms (ctx ++ mo) T2 = true := by
        have h8 := shift_is cs ms mo t ctx [] T2 (by rw [List.append_nil]; exact hok.2)
        rw [List.append_nil] at h8
        exact h8
      have hsc : chkI cs ms (ctx ++ mo) (shT mo.length 0 0 t) T2 = 0 := by
        unfold chkI
        rw [shT_right, hok.1, hsi]
        rfl
      have hlo := loose_in hok.2
      rw [HAN.out] at hlo
      obtain ⟨S2, hS2⟩ : ∃ S, shT mo.length 0 0 t = S := ⟨_, rfl⟩
      rw [hS2] at hsr hss hsc hst
      have hs2 := hss.2.2
      clear hss hsi hS2 hz HE2 hgr
      subst hz0
      obtain ⟨_, _, _, N0, N1, N2, N3, _, _⟩ := hK9 V2 j2
      go_wp2_with fail
      refine (m11 V2 j2).mono ?_
      clear N0 N1 N2 N3
      rintro e V3 ⟨ia, im, ic, id', ie, ig, rfl, hs3, hs4, j3⟩
      have K45 := ShiftT_calls t mo.length 0 okT _ _ V3 hs3 hs4 (by omega) hrg (by unfold fits; omega) (by unfold fits; omega)
      rw [hst, hsh, HLN.out] at K45
      go_wp2_with fail
      refine K45.mono ?_
      clear K45 hs3 hs4
      rintro e V4 ⟨vb, vr, rfl, hv3, hv4, hb4⟩
      obtain ⟨ba, bc, rfl, _⟩ := hv3.shape
      obtain ⟨bd, be, rfl, _⟩ := hv4.shape
      generalize S2.binds.length = bn at *
      generalize S2.args.length = bm at *
      have j4 : Cur w10 V4 := j3.then hb4
      obtain ⟨I, hI⟩ : ∃ n, V4.heap.size = n := ⟨_, rfl⟩
      obtain ⟨v11, hv11⟩ : ∃ v, V4.alloc (.cells #[.slice ba bn bc, .int .i64 S2.kind, .int .i64 S2.idx, .slice bd bm be] 34) = v := ⟨_, rfl⟩
      have bI : Blk v11 I 34 #[.slice ba bn bc, .int .i64 S2.kind, .int .i64 S2.idx, .slice bd bm be] := by rw [← hv11]; exact Blk.new' V4 I 34 _ hI
      have bb11 : Below V4.heap.size V4 v11 := by rw [← hv11]; exact (Below.refl _ _).alloc (Nat.le_refl _) _
      have cv11 : Cur w10 v11 := j4.then bb11
      have hsb : Holds v11 okT S2.binds (.slice ba bn bc) := (hv3.bel bb11).t
      have hsa : HoldsT v11 okT S2.args (.slice bd bm be) := (hv4.bel bb11).mono fun _ _ _ => trivial
      have HV11 : Hid _ := hv11
      clear hv11 bb11 j4 hb4 hv3 hv4
      go_upto_region 12 with fail
      rw [HV11.out]
      clear HV11 hI
      have hgc := cv11.holds hgc
      have hgm := cv11.holds hgm
      have hgx := cv11.holds hgx
      have hgh := cv11.holds hgh
      have ax := cv11.holds ax
      have al := cv11.holds al
      have ab := cv11.holds ab
      have ar := ar.bel cv11
      have I0 := bI.cell 0
      have I1 := bI.cell 1
      have I2 := bI.cell 2
      have I3 := bI.cell 3
      have hK12 : ∀ v, Cur v11 v → v.cell? ⟨A, 0, none⟩ = some (.int .i64 bs) ∧ v.cell? ⟨A, 1, none⟩ = some (.slice qa qn qc) ∧ v.cell? ⟨A, 2, none⟩ = some (.slice qd qm qe) ∧ v.cell? ⟨N + 1 + 1, 0, none⟩ = some (.slice x1 x2 x3) ∧ v.cell? ⟨N + 1 + 1, 1, none⟩ = some (.int .i64 t.kind) ∧ v.cell? ⟨N + 1 + 1, 2, none⟩ = some (.int .i64 t.idx) ∧ v.cell? ⟨N + 1 + 1, 3, none⟩ = some (.slice y1 y2 y3) ∧ v.cell? ⟨F, 0, none⟩ = some (.slice g1 g2 g3) ∧ v.cell? ⟨F, 1, none⟩ = some (.int .i64 T2.base) ∧ v.cell? ⟨I, 0, none⟩ = some (.slice ba bn bc) ∧ v.cell? ⟨I, 1, none⟩ = some (.int .i64 S2.kind) ∧ v.cell? ⟨I, 2, none⟩ = some (.int .i64 S2.idx) ∧ v.cell? ⟨I, 3, none⟩ = some (.slice bd bm be) := fun v hv => by
        obtain ⟨q0, q1, q2, q3, q4, q5, q6, q7, q8⟩ := hK9 v (cv11.then hv)
        exact ⟨q0, q1, q2, q3, q4, q5, q6, q7, q8, hv.cell I0, hv.cell I1, hv.cell I2, hv.cell I3⟩
      have n10 := fun (cur : World) (hc : Cur v11 cur) => Calls.cur hc (known_calls cur)
      have n53 : ∀ cur, Cur v11 cur → Calls Try.prog 53 #[.slice a1 an a2, .slice l1 ln l2] cur fun e w' => ∃ a n c, e = .returned (.slice a n c) ∧ Holds w' okT (ctx ++ mo) (.slice a n c) ∧ Cur v11 w' := fun cur hc =>
        (Behind_calls ctx mo okT _ _ cur (hc.holds ax) (hc.holds al) (by omega)).mono fun e w' ⟨v, h1, h2, h3⟩ => by
          obtain ⟨a, c, rfl, _⟩ := h2.shape
          exact ⟨a, _, c, h1, h2.t, hc.then h3⟩
      have hszz : sizeL (ctx ++ mo) ≤ 1000000 := by rw [sizeL_append]; omega
      have n33 : ∀ cur a n c, Cur v11 cur → Holds cur okT (ctx ++ mo) (.slice a n c) → Calls Try.prog 33 #[.slice a n c] cur fun e w' => ∃ a n c, e = .returned (.slice a n c) ∧ Holds w' okT (ctx ++ mo) (.slice a n c) ∧ Cur v11 w' := fun cur a n c hc hh =>
        (TypesT_calls (ctx ++ mo) okT _ cur hh hszz).mono fun e w' ⟨v, h1, h2, h3⟩ => by
          obtain ⟨a, c, rfl, _⟩ := h2.shape
          exact ⟨a, _, c, h1, h2.t, hc.then h3⟩
      have n40 : ∀ cur a n c, Cur v11 cur → Holds cur okT (ctx ++ mo) (.slice a n c) → Calls Try.prog 40 #[wov bs (.slice qa qn qc) (.slice qd qm qe), .slice a n c, tmv (.slice ba bn bc) S2.kind S2.idx (.slice bd bm be), tv (.slice g1 g2 g3) T2.base] cur fun e w' => e = .returned (.int .i64 0) ∧ Cur v11 w' := fun cur a n c hc hh => by
        have := Calls.cur hc (Check_calls cs ms (ctx ++ mo) S2 T2 bs _ _ _ _ _ _ cur (hc.holds hgc) (hc.holds hgm) hh (hc.holds hsb) (hsa.bel hc) (hc.holds hgh) hsr (by rw [List.length_append]; omega))
        rwa [hsc] at this
      have n11 : ∀ cur, Cur v11 cur → Calls Try.prog 11 #[tmv (.slice x1 x2 x3) t.kind t.idx (.slice y1 y2 y3)] cur fun e w' => ∃ a n c a' n' c', e = .returned (tmv (.slice a n c) t.kind t.idx (.slice a' n' c')) ∧ Holds w' okT t.binds (.slice a n c) ∧ HoldsT w' okT t.args (.slice a' n' c') ∧ Cur v11 w' := fun cur hcu =>
        (ToT_calls t okT _ _ cur (hcu.holds ab) (ar.bel hcu) (by omega)).mono fun e w' ⟨vb, vr, h1, h2, h3, h4⟩ => by
          obtain ⟨a, c, rfl, _⟩ := h2.shape
          obtain ⟨a', c', rfl, _⟩ := h3.shape
          exact ⟨a, _, c, a', _, c', h1, h2.t, h3.mono fun _ _ _ => trivial, hcu.then h4⟩
      have n18 : ∀ cur a n c a' n' c', Cur v11 cur → Holds cur okT t.binds (.slice a n c) → HoldsT cur okT t.args (.slice a' n' c') → Calls Try.prog 18 #[tmv (.slice a n c) t.kind t.idx (.slice a' n' c')] cur fun e w' => e = .returned (.int .i64 (looseI t)) ∧ Cur v11 w' := fun cur a n c a' n' c' hcu h1 h2 =>
        Calls.cur hcu (LooseH_calls t okT _ _ cur h1 h2 (by omega) hrg)
      have zle : decide (looseI t ≤ (an : Int)) = true := decide_eq_true hlo
      have bl11 : Below N w v11 := bl10.trans (Below.mono cv11 hz10)
      have hz11 : N ≤ v11.heap.size := by have := Below.size cv11; omega
      have hcur := Cur.refl v11
      generalize looseI t = lo at *
      clear m11 hK9 I0 I1 I2 I3 bI bl10 hz10 hlo cv11 hok hsh hst hsr hsc
      first
        | (go_region_held_law (fun v => v.cell? ⟨A, 0, none⟩ = some (.int .i64 bs) ∧ v.cell? ⟨A, 1, none⟩ = some (.slice qa qn qc) ∧ v.cell? ⟨A, 2, none⟩ = some (.slice qd qm qe) ∧ v.cell? ⟨N + 1 + 1, 0, none⟩ = some (.slice x1 x2 x3) ∧ v.cell? ⟨N + 1 + 1, 1, none⟩ = some (.int .i64 t.kind) ∧ v.cell? ⟨N + 1 + 1, 2, none⟩ = some (.int .i64 t.idx) ∧ v.cell? ⟨N + 1 + 1, 3, none⟩ = some (.slice y1 y2 y3) ∧ v.cell? ⟨F, 0, none⟩ = some (.slice g1 g2 g3) ∧ v.cell? ⟨F, 1, none⟩ = some (.int .i64 T2.base) ∧ v.cell? ⟨I, 0, none⟩ = some (.slice ba bn bc) ∧ v.cell? ⟨I, 1, none⟩ = some (.int .i64 S2.kind) ∧ v.cell? ⟨I, 2, none⟩ = some (.int .i64 S2.idx) ∧ v.cell? ⟨I, 3, none⟩ = some (.slice bd bm be))
            (first | exact hK12 _ (by first | with_reducible assumption | (with_reducible refine Cur.drew ?_; assumption)))
            (first
              | (go_at_call 10; refine (n10 _ (by first | with_reducible assumption | (with_reducible refine Cur.drew ?_; assumption))).mono ?_; rintro e V5 ⟨rfl, j5⟩)
              | (go_at_call 53; refine (n53 _ (by first | with_reducible assumption | (with_reducible refine Cur.drew ?_; assumption))).mono ?_; rintro e V6 ⟨pa, pn, pc, rfl, hp3, j6⟩)
              | (go_at_call 33; refine (n33 _ _ _ _ (by first | with_reducible assumption | (with_reducible refine Cur.drew ?_; assumption)) hp3).mono ?_; rintro e V7 ⟨oa, on, oc, rfl, ho3, j7⟩)
              | (go_at_call 40; refine (n40 _ _ _ _ (by first | with_reducible assumption | (with_reducible refine Cur.drew ?_; assumption)) ho3).mono ?_; rintro e V8 ⟨rfl, j8⟩)
              | (go_at_call 11; refine (n11 _ (by first | with_reducible assumption | (with_reducible refine Cur.drew ?_; assumption))).mono ?_; rintro e V9 ⟨ja, jn, jc, jd, je, jf, rfl, hj3, hj4, j9⟩)
              | (go_at_call 18; refine (n18 _ _ _ _ _ _ _ (by first | with_reducible assumption | (with_reducible refine Cur.drew ?_; assumption)) hj3 hj4).mono ?_; rintro e V10 ⟨rfl, j10⟩)))
        | fail
      go_wp2
      go_ret
      exact ⟨rfl, bl11.trans (Below.mono (by assumption) hz11)⟩

end Go.Proofs.Ytheokboggjnenaa
