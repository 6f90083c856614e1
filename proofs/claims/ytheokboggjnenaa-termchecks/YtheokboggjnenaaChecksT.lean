/-
  TermChecks comes out true: the walk.
-/
import Derived.Test.YtheokboggjnenaaChkT
import Derived.Test.YtheokboggjnenaaTyO2
import Derived.Test.YtheokboggjnenaaRightW2
import Derived.Test.YtheokboggjnenaaKnownT
import Derived.Test.YtheokboggjnenaaFewL
import Derived.Test.YtheokboggjnenaaBoxes
import Derived.Deep.RegionHeldLaw
import Derived.Deep.DeepCutAuto
namespace Go.Proofs.Ytheokboggjnenaa
open Go Go.RowKit Go.Sort

theorem small_sizes {cs ms ctx : List Ty} (h : smallB cs ms ctx = true) : sizeL cs ≤ 1200 ∧ sizeL ms ≤ 1200 ∧ sizeL ctx ≤ 1200 ∧ (cs.length ≤ 20 ∧ ms.length ≤ 20 ∧ ctx.length ≤ 20 ∧ (∀ u ∈ cs, u.size ≤ 60) ∧ (∀ u ∈ ms, u.size ≤ 60) ∧ ∀ u ∈ ctx, u.size ≤ 60) := by
  unfold smallB at h
  rw [Bool.and_eq_true] at h
  obtain ⟨h1, h2⟩ := h
  have hl : cs.length ≤ 20 ∧ ms.length ≤ 20 ∧ ctx.length ≤ 20 := by
    simp only [Bool.not_eq_true', Bool.or_eq_false_iff, decide_eq_false_iff_not] at h1
    omega
  have hz : ∀ u ∈ cs ++ ms ++ ctx, u.size ≤ 60 := fun u hu => by
    have := List.all_eq_true.1 h2 u hu
    unfold fewB at this
    exact (of_decide_eq_true this).1
  have key : ∀ l : List Ty, (∀ u ∈ l, u.size ≤ 60) → sizeL l ≤ 60 * l.length := fun l => by
    induction l with
    | nil => intro _; simp [sizeL]
    | cons u l ih =>
      intro hh
      have h3 := ih (fun v hv => hh v (by simp [hv]))
      have h4 := hh u (by simp)
      simp only [sizeL, List.length_cons]
      omega
  have z1 : ∀ u ∈ cs, u.size ≤ 60 := fun u hu => hz u (by simp [hu])
  have z2 : ∀ u ∈ ms, u.size ≤ 60 := fun u hu => hz u (by simp [hu])
  have z3 : ∀ u ∈ ctx, u.size ≤ 60 := fun u hu => hz u (by simp [hu])
  have k1 := key cs z1
  have k2 := key ms z2
  have k3 := key ctx z3
  exact ⟨by omega, by omega, by omega, hl.1, hl.2.1, hl.2.2, z1, z2, z3⟩
theorem few_size {t : Ty} (h : fewB 60 60 t = true) : t.size ≤ 60 := by
  unfold fewB at h
  exact (of_decide_eq_true h).1

theorem told_uni {o : Option Ty} {w : World} {e : Ending} (h : Told o w e) : ∃ a n c, Holds w okT (o.getD (.mk [] 0)).args (.slice a n c) ∧ e = .returned (.tuple #[tv (.slice a n c) (o.getD (.mk [] 0)).base, .int .i64 (if o.isSome then 0 else 10)]) := by
  rcases h with ⟨rfl, rfl⟩ | ⟨h, a, n, c, rfl, hh, rfl⟩
  · exact ⟨none, 0, 0, Holds.nil _ _ _ _ (fun _ => rfl), rfl⟩
  · exact ⟨a, n, c, hh, rfl⟩
theorem found_uni {o : Option Ty} {w : World} {e : Ending} (h : Found w okT o e) : ∃ a n c, Holds w okT (o.getD (.mk [] 0)).args (.slice a n c) ∧ e = .returned (.tuple #[tv (.slice a n c) (o.getD (.mk [] 0)).base, .bool o.isSome]) := by
  rcases h with ⟨rfl, rfl⟩ | ⟨h, a, n, c, rfl, hh, rfl⟩
  · exact ⟨none, 0, 0, Holds.nil _ _ _ _ (fun _ => rfl), rfl⟩
  · exact ⟨a, n, c, hh, rfl⟩

def actBC6 (N : Nat) (vx : Value) (y0 y2 y3 y5 y7 y8 y12 y13 y14 y15 y16 y17 y18 y19 y20 y21 y22 y23 y24 y25 y26 y27 y28 y29 y30 y31 y32 y33 y34 y35 y42 y43 y44 y45 y46 y47 y48 y49 y50 y51 y52 y53 y54 y55 y56 y57 y58 y59 y60 y61 y62 y63 y64 y65 y66 y67 y68 y69 y70 y71 y72 y73 y74 y75 y76 y77 y78 y79 y80 y81 y82 y83 y84 y85 y86 y87 y88 y89 y90 y91 y92 y93 y94 y95 y96 y97 y98 y99 y100 y101 y102 y103 y104 y105 y106 y107 y108 y109 y110 y111 y112 y113 y114 y115 y116 y117 y118 y119 y120 y121 y122 y123 y124 y125 y126 y127 y128 y129 y130 y131 y132 y133 y134 y135 y136 y137 y138 y139 y140 y141 y142 y143 y144 y145 y146 y147 y148 : Value) (u : Nat → Value) : Act :=
  { tmps := #[y0, vx, y2, y3, .pointer (some ⟨N, 0, none⟩), y5, .pointer (some ⟨N + 1, 0, none⟩), y7, y8, u 9, u 10, u 11, y12, y13, y14, y15, y16, y17, y18, y19, y20, y21, y22, y23, y24, y25, y26, y27, y28, y29, y30, y31, y32, y33, y34, y35, u 36, u 37, u 38, u 39, u 40, u 41, y42, y43, y44, y45, y46, y47, y48, y49, y50, y51, y52, y53, y54, y55, y56, y57, y58, y59, y60, y61, y62, y63, y64, y65, y66, y67, y68, y69, y70, y71, y72, y73, y74, y75, y76, y77, y78, y79, y80, y81, y82, y83, y84, y85, y86, y87, y88, y89, y90, y91, y92, y93, y94, y95, y96, y97, y98, y99, y100, y101, y102, y103, y104, y105, y106, y107, y108, y109, y110, y111, y112, y113, y114, y115, y116, y117, y118, y119, y120, y121, y122, y123, y124, y125, y126, y127, y128, y129, y130, y131, y132, y133, y134, y135, y136, y137, y138, y139, y140, y141, y142, y143, y144, y145, y146, y147, y148], defers := [] }
set_option maxRecDepth 100000 in
theorem over_actBC6 (N : Nat) (vx : Value) (y0 y2 y3 y5 y7 y8 y12 y13 y14 y15 y16 y17 y18 y19 y20 y21 y22 y23 y24 y25 y26 y27 y28 y29 y30 y31 y32 y33 y34 y35 y42 y43 y44 y45 y46 y47 y48 y49 y50 y51 y52 y53 y54 y55 y56 y57 y58 y59 y60 y61 y62 y63 y64 y65 y66 y67 y68 y69 y70 y71 y72 y73 y74 y75 y76 y77 y78 y79 y80 y81 y82 y83 y84 y85 y86 y87 y88 y89 y90 y91 y92 y93 y94 y95 y96 y97 y98 y99 y100 y101 y102 y103 y104 y105 y106 y107 y108 y109 y110 y111 y112 y113 y114 y115 y116 y117 y118 y119 y120 y121 y122 y123 y124 y125 y126 y127 y128 y129 y130 y131 y132 y133 y134 y135 y136 y137 y138 y139 y140 y141 y142 y143 y144 y145 y146 y147 y148 : Value) (u0 u : Nat → Value) : over (fun s => (Nat.ble 9 s && Nat.ble s 11) || (Nat.ble 36 s && Nat.ble s 41)) u (actBC6 N vx y0 y2 y3 y5 y7 y8 y12 y13 y14 y15 y16 y17 y18 y19 y20 y21 y22 y23 y24 y25 y26 y27 y28 y29 y30 y31 y32 y33 y34 y35 y42 y43 y44 y45 y46 y47 y48 y49 y50 y51 y52 y53 y54 y55 y56 y57 y58 y59 y60 y61 y62 y63 y64 y65 y66 y67 y68 y69 y70 y71 y72 y73 y74 y75 y76 y77 y78 y79 y80 y81 y82 y83 y84 y85 y86 y87 y88 y89 y90 y91 y92 y93 y94 y95 y96 y97 y98 y99 y100 y101 y102 y103 y104 y105 y106 y107 y108 y109 y110 y111 y112 y113 y114 y115 y116 y117 y118 y119 y120 y121 y122 y123 y124 y125 y126 y127 y128 y129 y130 y131 y132 y133 y134 y135 y136 y137 y138 y139 y140 y141 y142 y143 y144 y145 y146 y147 y148 u0) = actBC6 N vx y0 y2 y3 y5 y7 y8 y12 y13 y14 y15 y16 y17 y18 y19 y20 y21 y22 y23 y24 y25 y26 y27 y28 y29 y30 y31 y32 y33 y34 y35 y42 y43 y44 y45 y46 y47 y48 y49 y50 y51 y52 y53 y54 y55 y56 y57 y58 y59 y60 y61 y62 y63 y64 y65 y66 y67 y68 y69 y70 y71 y72 y73 y74 y75 y76 y77 y78 y79 y80 y81 y82 y83 y84 y85 y86 y87 y88 y89 y90 y91 y92 y93 y94 y95 y96 y97 y98 y99 y100 y101 y102 y103 y104 y105 y106 y107 y108 y109 y110 y111 y112 y113 y114 y115 y116 y117 y118 y119 y120 y121 y122 y123 y124 y125 y126 y127 y128 y129 y130 y131 y132 y133 y134 y135 y136 y137 y138 y139 y140 y141 y142 y143 y144 y145 y146 y147 y148 u := rfl
def VBC6 (cs ms ctx : List Ty) (t : Tm) (bs : Int) (va vx vb : Value) (s : Nat) (w : World) (ok : Nat → Prop) (v : Value) : Prop := match s with
  | 36 => v = va
  | 37 => ∃ qa qn qc qd qm qe, v = wov bs (.slice qa qn qc) (.slice qd qm qe) ∧ Holds w ok cs (.slice qa qn qc) ∧ Holds w ok ms (.slice qd qm qe)
  | 38 => v = vx
  | 39 => ∃ ra rn rc, v = .slice ra rn rc ∧ Holds w ok ctx (.slice ra rn rc)
  | 40 => v = vb
  | 41 => ∃ sa sn sc sd sm se, v = tmv (.slice sa sn sc) t.kind t.idx (.slice sd sm se) ∧ Holds w ok t.binds (.slice sa sn sc) ∧ HoldsT w ok t.args (.slice sd sm se)
  | 10 => ∃ ra rn rc, v = .slice ra rn rc ∧ Holds w ok ctx (.slice ra rn rc)
  | _ => True
theorem VBC6.keep (cs ms ctx : List Ty) (t : Tm) (bs : Int) (va vx vb : Value) (s : Nat) (w w' : World) (ok ok' : Nat → Prop) (v : Value) (h : VBC6 cs ms ctx t bs va vx vb s w ok v) (hsz : w.heap.size ≤ w'.heap.size) (hkp : ∀ m, m < w.heap.size → ok m → w'.heap[m]? = w.heap[m]? ∧ ok' m) : VBC6 cs ms ctx t bs va vx vb s w' ok' v := by
  have _ := hsz
  revert h
  unfold VBC6
  split <;> intro h
  · exact h
  · obtain ⟨qa, qn, qc, qd, qm, qe, e0, h1, h2⟩ := h; exact ⟨qa, qn, qc, qd, qm, qe, e0, h1.keep hkp, h2.keep hkp⟩
  · exact h
  · obtain ⟨ra, rn, rc, e0, h1⟩ := h; exact ⟨ra, rn, rc, e0, h1.keep hkp⟩
  · exact h
  · obtain ⟨sa, sn, sc, sd, sm, se, e0, h1, h2⟩ := h; exact ⟨sa, sn, sc, sd, sm, se, e0, h1.keep hkp, h2.keep hkp⟩
  · obtain ⟨ra, rn, rc, e0, h1⟩ := h; exact ⟨ra, rn, rc, e0, h1.keep hkp⟩
  · trivial

def actT10 (N : Nat) (pA px pm xa : Value) (y0 y2 y3 y5 y8 y12 y13 y14 y15 y16 y17 y18 y20 y21 y22 y23 y24 y25 y26 y27 y28 y29 y30 y31 y32 y33 y34 y35 y36 y37 y38 y39 y40 y41 y42 y43 y44 y45 y46 y47 y48 y49 y50 y51 y52 y53 y54 y55 y56 y57 y58 y59 y60 y61 y62 y63 y64 y65 y66 y67 y68 y69 y70 y71 y72 y73 y74 y75 y76 y77 y78 y79 y80 y81 y82 y83 y84 y85 y86 y87 y88 y89 y90 y91 y92 y93 y94 y95 y96 y97 y98 y99 y100 y101 y102 y103 y104 y105 y106 y107 y108 y109 y110 y111 y141 y142 y143 y144 y145 y146 y147 y148 : Value) (u : Nat → Value) : Act :=
  { tmps := #[y0, xa, y2, y3, .pointer (some ⟨N, 0, none⟩), y5, .pointer (some ⟨N + 1, 0, none⟩), .pointer (some ⟨N + 1 + 1, 0, none⟩), y8, pA, px, pm, y12, y13, y14, y15, y16, y17, y18, .bool false, y20, y21, y22, y23, y24, y25, y26, y27, y28, y29, y30, y31, y32, y33, y34, y35, y36, y37, y38, y39, y40, y41, y42, y43, y44, y45, y46, y47, y48, y49, y50, y51, y52, y53, y54, y55, y56, y57, y58, y59, y60, y61, y62, y63, y64, y65, y66, y67, y68, y69, y70, y71, y72, y73, y74, y75, y76, y77, y78, y79, y80, y81, y82, y83, y84, y85, y86, y87, y88, y89, y90, y91, y92, y93, y94, y95, y96, y97, y98, y99, y100, y101, y102, y103, y104, y105, y106, y107, y108, y109, y110, y111, u 112, u 113, u 114, u 115, u 116, u 117, u 118, u 119, u 120, u 121, u 122, u 123, u 124, u 125, u 126, u 127, u 128, u 129, u 130, u 131, u 132, u 133, u 134, u 135, u 136, u 137, u 138, u 139, u 140, y141, y142, y143, y144, y145, y146, y147, y148], defers := [] }
set_option maxRecDepth 100000 in
theorem over_actT10 (N : Nat) (pA px pm xa : Value) (y0 y2 y3 y5 y8 y12 y13 y14 y15 y16 y17 y18 y20 y21 y22 y23 y24 y25 y26 y27 y28 y29 y30 y31 y32 y33 y34 y35 y36 y37 y38 y39 y40 y41 y42 y43 y44 y45 y46 y47 y48 y49 y50 y51 y52 y53 y54 y55 y56 y57 y58 y59 y60 y61 y62 y63 y64 y65 y66 y67 y68 y69 y70 y71 y72 y73 y74 y75 y76 y77 y78 y79 y80 y81 y82 y83 y84 y85 y86 y87 y88 y89 y90 y91 y92 y93 y94 y95 y96 y97 y98 y99 y100 y101 y102 y103 y104 y105 y106 y107 y108 y109 y110 y111 y141 y142 y143 y144 y145 y146 y147 y148 : Value) (u0 u : Nat → Value) : over (fun s => Nat.ble 112 s && Nat.ble s 140) u (actT10 N pA px pm xa y0 y2 y3 y5 y8 y12 y13 y14 y15 y16 y17 y18 y20 y21 y22 y23 y24 y25 y26 y27 y28 y29 y30 y31 y32 y33 y34 y35 y36 y37 y38 y39 y40 y41 y42 y43 y44 y45 y46 y47 y48 y49 y50 y51 y52 y53 y54 y55 y56 y57 y58 y59 y60 y61 y62 y63 y64 y65 y66 y67 y68 y69 y70 y71 y72 y73 y74 y75 y76 y77 y78 y79 y80 y81 y82 y83 y84 y85 y86 y87 y88 y89 y90 y91 y92 y93 y94 y95 y96 y97 y98 y99 y100 y101 y102 y103 y104 y105 y106 y107 y108 y109 y110 y111 y141 y142 y143 y144 y145 y146 y147 y148 u0) = actT10 N pA px pm xa y0 y2 y3 y5 y8 y12 y13 y14 y15 y16 y17 y18 y20 y21 y22 y23 y24 y25 y26 y27 y28 y29 y30 y31 y32 y33 y34 y35 y36 y37 y38 y39 y40 y41 y42 y43 y44 y45 y46 y47 y48 y49 y50 y51 y52 y53 y54 y55 y56 y57 y58 y59 y60 y61 y62 y63 y64 y65 y66 y67 y68 y69 y70 y71 y72 y73 y74 y75 y76 y77 y78 y79 y80 y81 y82 y83 y84 y85 y86 y87 y88 y89 y90 y91 y92 y93 y94 y95 y96 y97 y98 y99 y100 y101 y102 y103 y104 y105 y106 y107 y108 y109 y110 y111 y141 y142 y143 y144 y145 y146 y147 y148 u := rfl
def VT10 (cs ms ctx : List Ty) (t : Tm) (ty : Ty) (vA vX vM vY vW vZ vT : Value) (s : Nat) (w : World) (v : Value) : Prop := match s with
  | 112 => v = vA
  | 113 => v = vX
  | 114 => v = vM
  | 115 => v = vY
  | 116 => ∃ ka kn kc, v = tv (.slice ka kn kc) ty.base ∧ Holds w okT ty.args (.slice ka kn kc)
  | 117 => v = .int .i64 (chkI cs ms ctx t ty)
  | 118 => v = vW
  | 119 => v = vZ
  | 120 => v = vT
  | 121 => v = vY
  | 122 => v = .int .i64 (chkI cs ms ctx t ty)
  | 123 => v = .bool false
  | 124 => v = .bool false
  | 125 => v = .bool false
  | 126 => v = .bool false
  | 127 => v = undef
  | 128 => v = undef
  | 129 => v = undef
  | 130 => v = undef
  | 131 => v = undef
  | 132 => v = undef
  | 133 => v = undef
  | 134 => v = undef
  | 135 => v = undef
  | 136 => v = undef
  | 137 => v = undef
  | 138 => v = undef
  | 139 => v = .bool false
  | 140 => v = .bool false
  | _ => True
theorem VT10.mono {cs ms ctx : List Ty} {t : Tm} {ty : Ty} {vA vX vM vY vW vZ vT : Value} {s : Nat} {w w' : World} {v : Value} (h : VT10 cs ms ctx t ty vA vX vM vY vW vZ vT s w v) (hb : Below w.heap.size w w') : VT10 cs ms ctx t ty vA vX vM vY vW vZ vT s w' v := by
  revert h
  unfold VT10
  split <;> intro h
  · exact h
  · exact h
  · exact h
  · exact h
  · obtain ⟨ka, kn, kc, e, h⟩ := h; exact ⟨ka, kn, kc, e, h.bel hb⟩
  · exact h
  · exact h
  · exact h
  · exact h
  · exact h
  · exact h
  · exact h
  · exact h
  · exact h
  · exact h
  · exact h
  · exact h
  · exact h
  · exact h
  · exact h
  · exact h
  · exact h
  · exact h
  · exact h
  · exact h
  · exact h
  · exact h
  · exact h
  · exact h
  · trivial

set_option maxRecDepth 100000 in
set_option maxHeartbeats 12800000 in
theorem ChecksT_calls (cs ms ctx : List Ty) (t : Tm) (ty : Ty) (bs : Int) (cv mv xv sb sr sy : Value) (w : World) (hc : Holds w okT cs cv) (hm : Holds w okT ms mv) (hx : Holds w okT ctx xv) (hb : Holds w okT t.binds sb) (hr : HoldsT w okT t.args sr) (hy : Holds w okT ty.args sy) (hrg : t.rng) :
    Calls Try.prog 5 #[wov bs cv mv, xv, tmv sb t.kind t.idx sr, tv sy ty.base] w fun e w' => e = .returned (.bool true) ∧ Below w.heap.size w w' := by
  obtain ⟨c1, c2, rfl, _⟩ := hc.shape
  obtain ⟨u1, u2, rfl, _⟩ := hm.shape
  obtain ⟨a1, a2, rfl, _⟩ := hx.shape
  obtain ⟨x1, x3, rfl, _⟩ := hb.shape
  obtain ⟨y1, y3, rfl, _⟩ := hr.shape
  obtain ⟨z1, z3, rfl, _⟩ := hy.shape
  obtain ⟨cn, hcn⟩ : ∃ n, cs.length = n := ⟨_, rfl⟩
  obtain ⟨un, hmn⟩ : ∃ n, ms.length = n := ⟨_, rfl⟩
  obtain ⟨an, han⟩ : ∃ n, ctx.length = n := ⟨_, rfl⟩
  obtain ⟨x2, hx2⟩ : ∃ n, t.binds.length = n := ⟨_, rfl⟩
  obtain ⟨y2, hy2⟩ : ∃ n, t.args.length = n := ⟨_, rfl⟩
  obtain ⟨z2, hz2⟩ : ∃ n, ty.args.length = n := ⟨_, rfl⟩
  rw [hcn] at hc ⊢
  rw [hmn] at hm ⊢
  rw [han] at hx ⊢
  rw [hx2] at hb ⊢
  rw [hy2] at hr ⊢
  rw [hz2] at hy ⊢
  have HCN : Hid (cs.length = cn) := hcn
  have HMN : Hid (ms.length = un) := hmn
  have HAN : Hid (ctx.length = an) := han
  clear hcn hmn han hx2 hy2 hz2
  obtain ⟨N, hN⟩ : ∃ N, w.heap.size = N := ⟨_, rfl⟩
  rw [hN]
  obtain ⟨W0, hW0⟩ : ∃ W0, ((w.alloc (.cells #[.int .i64 bs, .slice c1 cn c2, .slice u1 un u2] 53)).alloc (.cells #[.slice x1 x2 x3, .int .i64 t.kind, .int .i64 t.idx, .slice y1 y2 y3] 27)).alloc (.cells #[.slice z1 z2 z3, .int .i64 ty.base] 55) = W0 := ⟨_, rfl⟩
  have b0 : Blk W0 N 53 #[.int .i64 bs, .slice c1 cn c2, .slice u1 un u2] := by rw [← hW0]; exact ((Blk.new' w N 53 _ hN).alloc _).alloc _
  have b1 : Blk W0 (N + 1) 27 #[.slice x1 x2 x3, .int .i64 t.kind, .int .i64 t.idx, .slice y1 y2 y3] := by rw [← hW0]; exact (Blk.new' _ (N + 1) 27 _ (by simp [hN])).alloc _
  have b2 : Blk W0 (N + 1 + 1) 55 #[.slice z1 z2 z3, .int .i64 ty.base] := by rw [← hW0]; exact Blk.new' _ (N + 1 + 1) 55 _ (by simp [hN])
  have hz0 : W0.heap.size = N + 3 := by rw [← hW0]; simp [hN]
  have bl0 : Below N w W0 := by rw [← hW0]; exact (((Below.refl N w).alloc (by omega) _).alloc (by simp; omega) _).alloc (by simp; omega) _
  have hc0 := hc.bel (hN ▸ bl0)
  have hm0 := hm.bel (hN ▸ bl0)
  have hx0 := hx.bel (hN ▸ bl0)
  have hb0 := hb.bel (hN ▸ bl0)
  have hr0 := hr.bel (hN ▸ bl0)
  have hy0 := hy.bel (hN ▸ bl0)
  obtain ⟨r1, hr1⟩ : ∃ r, fewTB 150 70 t = r := ⟨_, rfl⟩
  obtain ⟨r2, hr2⟩ : ∃ r, smallB cs ms ctx = r := ⟨_, rfl⟩
  obtain ⟨r3, hr3⟩ : ∃ r, fewB 60 60 ty = r := ⟨_, rfl⟩
  have hF1 := holdsT_one W0 (N + 3) hz0 t 27 x1 x2 x3 y1 y2 y3 hb0 hr0
  obtain ⟨W1, hW1⟩ : ∃ W1, W0.alloc (.cells #[.slice x1 x2 x3, .int .i64 t.kind, .int .i64 t.idx, .slice y1 y2 y3] 27) = W1 := ⟨_, rfl⟩
  rw [hW1] at hF1
  have hfl := FewL_calls [t] okT _ W1 hF1 (by simp)
  rw [show [t].all (fewTB 150 70) = r1 by rw [← hr1]; simp] at hfl
  have bb1 : Below W0.heap.size W0 W1 := by rw [← hW1]; exact (Below.refl _ _).alloc (Nat.le_refl _) _
  have HR1 : Hid _ := hr1
  have HR2 : Hid _ := hr2
  have HR3 : Hid _ := hr3
  have HW : Hid _ := hW0
  have HW1 : Hid _ := hW1
  have k30 := fun cur (h : Cur W0 cur) => Small_calls cs ms ctx bs _ _ _ cur (h.holds hc0) (h.holds hm0) (h.holds hx0)
  have k31 := fun cur (h : Cur W0 cur) => Few_calls 60 (by omega) 60 (by omega) ty okT _ cur (h.holds hy0)
  simp only [hr2] at k30
  simp only [hr3] at k31
  have c0 := b1.cell 0
  have c1' := b1.cell 1
  have c2' := b1.cell 2
  have c3' := b1.cell 3
  have hzN : N ≤ W0.heap.size := by omega
  clear hW0 hW1 hr1 hr2 hr3 hF1 hb hr hc hm hx hy
  go_enter Try.func5, Try.ntmps5
  go_upto_region 1 with fail
  rw [HW.out]
  clear HW
  go_wp2_with fail
  rw [HW1.out]
  clear HW1
  refine hfl.mono ?_
  rintro e w1 ⟨rfl, hb1⟩
  have hc1 : Cur W0 w1 := (show Cur W0 W1 from bb1).then hb1
  clear hfl hb1 bb1 c0 c1' c2' c3'
  cases r1 with
  | false =>
    clear k30 k31
    go_wp2_with fail
    refine (known_calls _).mono ?_
    rintro e w4 ⟨rfl, hb4⟩
    go_wp2
    go_ret
    exact ⟨rfl, bl0.trans (Below.mono (hc1.then hb4) hzN)⟩
  | true =>
  have k2 := k30 w1 hc1
  have e0 := (b0.below hc1 b0.lt).cell 0
  have e1 := (b0.below hc1 b0.lt).cell 1
  have e2 := (b0.below hc1 b0.lt).cell 2
  clear k30
  go_wp2_with fail
  refine k2.mono ?_
  clear k2 e0 e1 e2
  rintro e w2 ⟨rfl, hb2⟩
  have hc2 : Cur W0 w2 := hc1.then hb2
  clear hb2 hc1
  cases r2 with
  | false =>
    clear k31
    go_wp2_with fail
    refine (known_calls _).mono ?_
    rintro e w4 ⟨rfl, hb4⟩
    go_wp2
    go_ret
    exact ⟨rfl, bl0.trans (Below.mono (hc2.then hb4) hzN)⟩
  | true =>
  have k2 := k31 w2 hc2
  have e0 := (b2.below hc2 b2.lt).cell 0
  have e1 := (b2.below hc2 b2.lt).cell 1
  clear k31
  go_wp2_with fail
  refine k2.mono ?_
  clear k2 e0 e1
  rintro e w3 ⟨rfl, hb3⟩
  have hc3 : Cur W0 w3 := hc2.then hb3
  clear hb3 hc2
  cases r3 with
  | false =>
    go_wp2_with fail
    refine (known_calls _).mono ?_
    rintro e w4 ⟨rfl, hb4⟩
    go_wp2
    go_ret
    exact ⟨rfl, bl0.trans (Below.mono (hc3.then hb4) hzN)⟩
  | true =>
  have htt := total_of_few HR1.out
  have k0 := b0.below hc3 b0.lt
  have k1 := b1.below hc3 b1.lt
  have k2 := b2.below hc3 b2.lt
  have gc := hc3.holds hc0
  have gm := hc3.holds hm0
  have gx := hc3.holds hx0
  have gb := hc3.holds hb0
  have gr := hr0.bel hc3
  have gy := hc3.holds hy0
  have bl3 : Below N w w3 := bl0.trans (Below.mono hc3 hzN)
  have hs3 : N + 3 ≤ w3.heap.size := by have := Below.size hc3; omega
  obtain ⟨szc, szm, szx, hsmall⟩ : sizeL cs ≤ 1200 ∧ sizeL ms ≤ 1200 ∧ sizeL ctx ≤ 1200 ∧ (cs.length ≤ 20 ∧ ms.length ≤ 20 ∧ ctx.length ≤ 20 ∧ (∀ u ∈ cs, u.size ≤ 60) ∧ (∀ u ∈ ms, u.size ≤ 60) ∧ ∀ u ∈ ctx, u.size ≤ 60) := small_sizes HR2.out
  have htyz : ty.size ≤ 60 := few_size HR3.out
  clear b0 b1 b2 bl0 hb0 hr0 hc0 hm0 hx0 hy0 hc3 hz0 hzN hN HR1 HR2 HR3
  go_upto_region 3 with fail
  rename_i K Q' hKs
  refine (wpIn_wide (n := 9)).1 ?_
  show Code.wpIn Fence.wide 9 Try.prog (Code.region 3 _ true) _ (actBC6 N (.slice a1 an a2) (wov bs (Value.slice c1 cn c2) (Value.slice u1 un u2)) (tmv (Value.slice x1 x2 x3) t.kind t.idx (Value.slice y1 y2 y3)) (tv (Value.slice z1 z2 z3) ty.base) (undef) (Value.pointer (some { block := N + 1 + 1, off := 0 })) (Value.bool false) (undef) (undef) (undef) (undef) (undef) (undef) (undef) (undef) (Value.agg #[Value.slice x1 x2 x3, Value.int IntKind.i64 t.kind, Value.int IntKind.i64 t.idx, Value.slice y1 y2 y3]) (Value.slice (some { block := N + 3, off := 0 }) 1 1) (Value.bool true) (Value.bool false) (Value.bool false) (Value.agg #[Value.int IntKind.i64 bs, Value.slice c1 cn c2, Value.slice u1 un u2]) (Value.slice a1 an a2) (Value.bool true) (Value.bool false) (Value.bool false) (Value.bool false) (Value.agg #[Value.slice z1 z2 z3, Value.int IntKind.i64 ty.base]) (Value.bool true) (Value.bool false) (Value.bool false) (undef) (undef) (undef) (undef) (undef) (undef) (undef) (undef) (undef) (undef) (undef) (undef) (undef) (undef) (undef) (undef) (undef) (undef) (undef) (undef) (undef) (undef) (undef) (undef) (undef) (undef) (undef) (undef) (undef) (undef) (undef) (undef) (undef) (undef) (undef) (undef) (undef) (undef) (undef) (undef) (undef) (undef) (undef) (undef) (undef) (undef) (undef) (undef) (undef) (undef) (undef) (undef) (undef) (undef) (undef) (undef) (undef) (undef) (undef) (undef) (undef) (undef) (undef) (undef) (undef) (undef) (undef) (undef) (undef) (undef) (undef) (undef) (undef) (undef) (undef) (undef) (undef) (undef) (undef) (undef) (undef) (undef) (undef) (undef) (undef) (undef) (undef) (undef) (undef) (undef) (undef) (undef) (undef) (undef) (undef) (undef) (undef) (undef) (undef) (undef) (undef) (undef) (undef) (undef) (undef) (undef) (undef) (undef) (fun | 9 => undef | 10 => undef | 11 => undef | 36 => undef | 37 => undef | 38 => undef | 39 => undef | 40 => undef | 41 => undef | _ => undef)) w3
  refine region_boxes [(0, 0), (1, 0), (2, 0), (3, 0), (4, 0), (5, 0), (9, 1)] [⟨9, 37, 59, #[.int .i64 0, .slice none 0 0, .slice none 0 0], 6, 0, 8⟩, ⟨11, 41, 34, #[.slice none 0 0, .int .i64 0, .int .i64 0, .slice none 0 0], 7, 0, 10⟩] (fun s => (Nat.ble 9 s && Nat.ble s 11) || (Nat.ble 36 s && Nat.ble s 41)) (VBC6 cs ms ctx t bs (.agg #[.int .i64 bs, .slice c1 cn c2, .slice u1 un u2]) (.slice a1 an a2) (tmv (.slice x1 x2 x3) t.kind t.idx (.slice y1 y2 y3))) (by kernel_rfl) (by kernel_rfl) (by kernel_rfl) (by kernel_rfl) (by kernel_rfl) (by kernel_rfl) (by kernel_rfl) (VBC6.keep cs ms ctx t bs (.agg #[.int .i64 bs, .slice c1 cn c2, .slice u1 un u2]) (.slice a1 an a2) (tmv (.slice x1 x2 x3) t.kind t.idx (.slice y1 y2 y3))) ⟨?_, ?_, ?_, ?_, ?_, ?_, ?_, trivial⟩ ⟨⟨?_, ?_⟩, ⟨?_, ?_⟩, trivial⟩ ?_
  · intro o ho uu ok w hB hk K' hK
    cases ho
    have g0 := (cat hB k0.lt).trans (k0.cell 0)
    have g1 := (cat hB k0.lt).trans (k0.cell 1)
    have g2 := (cat hB k0.lt).trans (k0.cell 2)
    have hK3 := hK (.agg #[.int .i64 bs, .slice c1 cn c2, .slice u1 un u2]) w (fun s hs => by cases hs; exact rfl) (Below.refl _ _)
    simp only [over_actBC6] at hK3 ⊢
    clear hK hk
    unfold actBC6 at hK3 ⊢
    refine want_plain rfl ?_
    go_simp
    exact hK3
  · intro o ho uu ok w hB hk K' hK
    cases ho
    have e36 : uu 36 = .agg #[.int .i64 bs, .slice c1 cn c2, .slice u1 un u2] := hk 36 (by decide +kernel) rfl
    have hcall := World_calls cs ms bs _ _ w (gc.bel hB) (gm.bel hB) (by omega) (by omega)
    have hK3 := fun (w2 : World) (qa : Option Addr) (qn qc : Nat) (qd : Option Addr) (qm qe : Nat) (h1 : Holds w2 (fun m => w.heap.size ≤ m) cs (.slice qa qn qc)) (h2 : Holds w2 (fun m => w.heap.size ≤ m) ms (.slice qd qm qe)) (hb2 : Below w.heap.size w w2) => hK (wov bs (.slice qa qn qc) (.slice qd qm qe)) w2 (fun s hs => by cases hs; exact ⟨qa, qn, qc, qd, qm, qe, rfl, h1.mono (fun _ _ h => .inl h), h2.mono (fun _ _ h => .inl h)⟩) hb2
    simp only [over_actBC6] at hK3 ⊢
    clear hK hk
    unfold actBC6 at hK3 ⊢
    simp only [e36] at hK3 ⊢
    refine want_plain rfl ?_
    go_simp
    refine ⟨trivial, (callsIn_wide.2 hcall).mono ?_⟩
    rintro e w2 ⟨qa, qn, qc, qd, qm, qe, rfl, h1, h2, hbw⟩
    exact hK3 w2 qa qn qc qd qm qe h1 h2 hbw
  · intro o ho uu ok w hB hk K' hK
    cases ho
    have hK3 := hK (.slice a1 an a2) w (fun s hs => by cases hs; exact rfl) (Below.refl _ _)
    simp only [over_actBC6] at hK3 ⊢
    clear hK hk
    unfold actBC6 at hK3 ⊢
    refine want_plain rfl ?_
    go_simp
    exact hK3
  · intro o ho uu ok w hB hk K' hK
    cases ho
    have e38 : uu 38 = .slice a1 an a2 := hk 38 (by decide +kernel) rfl
    have hcall := TypesT_calls ctx okT _ w (gx.bel hB) (by omega)
    have hK3 := fun (w2 : World) (ra : Option Addr) (rn rc : Nat) (h1 : Holds w2 (fun m => w.heap.size ≤ m) ctx (.slice ra rn rc)) (hb2 : Below w.heap.size w w2) => hK (.slice ra rn rc) w2 (fun s hs => by cases hs; exact ⟨ra, rn, rc, rfl, h1.mono (fun _ _ h => .inl h)⟩) hb2
    simp only [over_actBC6] at hK3 ⊢
    clear hK hk
    unfold actBC6 at hK3 ⊢
    simp only [e38] at hK3 ⊢
    refine want_plain rfl ?_
    go_simp
    refine ⟨trivial, (callsIn_wide.2 hcall).mono ?_⟩
    rintro e w2 ⟨vv, rfl, h1, hbw⟩
    obtain ⟨ra, rc, rfl, _⟩ := h1.shape
    exact hK3 w2 ra _ rc h1 hbw
  · intro o ho uu ok w hB hk K' hK
    cases ho
    have g0 := (cat hB k1.lt).trans (k1.cell 0)
    have g1 := (cat hB k1.lt).trans (k1.cell 1)
    have g2 := (cat hB k1.lt).trans (k1.cell 2)
    have g3 := (cat hB k1.lt).trans (k1.cell 3)
    have hK3 := hK (tmv (.slice x1 x2 x3) t.kind t.idx (.slice y1 y2 y3)) w (fun s hs => by cases hs; exact rfl) (Below.refl _ _)
    simp only [over_actBC6] at hK3 ⊢
    clear hK hk
    unfold actBC6 at hK3 ⊢
    refine want_plain rfl ?_
    go_simp
    exact hK3
  · intro o ho uu ok w hB hk K' hK
    cases ho
    have e40 : uu 40 = tmv (.slice x1 x2 x3) t.kind t.idx (.slice y1 y2 y3) := hk 40 (by decide +kernel) rfl
    have hcall := ToT_calls t okT _ _ w (gb.bel hB) (gr.bel hB) (by omega)
    have hK3 := fun (w2 : World) (sa : Option Addr) (sn sc : Nat) (sd : Option Addr) (sm se : Nat) (h1 : Holds w2 (fun m => w.heap.size ≤ m) t.binds (.slice sa sn sc)) (h2 : HoldsT w2 (fun m => w.heap.size ≤ m) t.args (.slice sd sm se)) (hb2 : Below w.heap.size w w2) => hK (tmv (.slice sa sn sc) t.kind t.idx (.slice sd sm se)) w2 (fun s hs => by cases hs; exact ⟨sa, sn, sc, sd, sm, se, rfl, h1.mono (fun _ _ h => .inl h), h2.mono (fun _ _ h => .inl h)⟩) hb2
    simp only [over_actBC6] at hK3 ⊢
    clear hK hk
    unfold actBC6 at hK3 ⊢
    simp only [e40] at hK3 ⊢
    refine want_plain rfl ?_
    go_simp
    refine ⟨trivial, (callsIn_wide.2 hcall).mono ?_⟩
    rintro e w2 ⟨vb, vr, rfl, h1, h2, hbw⟩
    obtain ⟨sa, sc, rfl, _⟩ := h1.shape
    obtain ⟨sd, se, rfl, _⟩ := h2.shape
    exact hK3 w2 sa _ sc sd _ se h1 h2 hbw
  · intro o ho uu ok w hB hk K' hK
    cases ho
    obtain ⟨ra_39, rn_39, rc_39, e39, h39_1⟩ := hk 39 (by decide +kernel) rfl
    have hK3 := hK (.slice ra_39 rn_39 rc_39) w (fun s hs => by cases hs; exact ⟨ra_39, rn_39, rc_39, rfl, h39_1.mono (fun _ _ h => .inr h)⟩) (Below.refl _ _)
    simp only [over_actBC6] at hK3 ⊢
    clear hK hk
    unfold actBC6 at hK3 ⊢
    simp only [e39] at hK3 ⊢
    refine want_plain rfl ?_
    go_simp
    exact hK3
  · intro o ho uu w K' hK
    cases ho
    simp only [over_actBC6] at hK ⊢
    unfold actBC6 at hK ⊢
    refine want_plain rfl ?_
    go_simp
    exact hK
  · intro o ho uu ok w m hm hb hv K' hK
    cases ho
    dsimp only at hm hb hv hK
    obtain ⟨qa, qn, qc, qd, qm, qe, e37, h1, h2⟩ := hv
    have fz0 := hb.frozen 0
    have cz0 := hb.cell 0
    have fz1 := hb.frozen 1
    have cz1 := hb.cell 1
    have fz2 := hb.frozen 2
    have cz2 := hb.cell 2
    have b9 := (((hb.set 0 (.int .i64 bs)).set 1 (.slice qa qn qc)).set 2 (.slice qd qm qe))
    have o9 := ((((Only.refl [m] w).set (B := m) (by simp) 0 (.int .i64 bs)).set (B := m) (by simp) 1 (.slice qa qn qc)).set (B := m) (by simp) 2 (.slice qd qm qe))
    rw [e37] at hK
    have hK3 := hK _ b9 o9
    simp only [over_actBC6] at hK3 ⊢
    clear hK b9 o9
    unfold actBC6 at hK3 ⊢
    simp only [hm, e37] at hK3 ⊢
    refine want_plain rfl ?_
    go_simp
    exact hK3
  · intro o ho uu w K' hK
    cases ho
    simp only [over_actBC6] at hK ⊢
    unfold actBC6 at hK ⊢
    refine want_plain rfl ?_
    go_simp
    exact hK
  · intro o ho uu ok w m hm hb hv K' hK
    cases ho
    dsimp only at hm hb hv hK
    obtain ⟨sa, sn, sc, sd, sm, se, e41, h1, h2⟩ := hv
    have fz0 := hb.frozen 0
    have cz0 := hb.cell 0
    have fz1 := hb.frozen 1
    have cz1 := hb.cell 1
    have fz2 := hb.frozen 2
    have cz2 := hb.cell 2
    have fz3 := hb.frozen 3
    have cz3 := hb.cell 3
    have b9 := ((((hb.set 0 (.slice sa sn sc)).set 1 (.int .i64 t.kind)).set 2 (.int .i64 t.idx)).set 3 (.slice sd sm se))
    have o9 := (((((Only.refl [m] w).set (B := m) (by simp) 0 (.slice sa sn sc)).set (B := m) (by simp) 1 (.int .i64 t.kind)).set (B := m) (by simp) 2 (.int .i64 t.idx)).set (B := m) (by simp) 3 (.slice sd sm se))
    rw [e41] at hK
    have hK3 := hK _ b9 o9
    simp only [over_actBC6] at hK3 ⊢
    clear hK b9 o9
    unfold actBC6 at hK3 ⊢
    simp only [hm, e41] at hK3 ⊢
    refine want_plain rfl ?_
    go_simp
    exact hK3
  · intro uu w' hB hv hbx
    have e36 : uu 36 = .agg #[.int .i64 bs, .slice c1 cn c2, .slice u1 un u2] := hv 36 (by decide +kernel) (by decide +kernel)
    have e38 : uu 38 = .slice a1 an a2 := hv 38 (by decide +kernel) (by decide +kernel)
    have e40 : uu 40 = tmv (.slice x1 x2 x3) t.kind t.idx (.slice y1 y2 y3) := hv 40 (by decide +kernel) (by decide +kernel)
    obtain ⟨qa_37, qn_37, qc_37, qd_37, qm_37, qe_37, e37, h37_1, h37_2⟩ := hv 37 (by decide +kernel) (by decide +kernel)
    obtain ⟨ra_39, rn_39, rc_39, e39, h39_1⟩ := hv 39 (by decide +kernel) (by decide +kernel)
    obtain ⟨sa_41, sn_41, sc_41, sd_41, sm_41, se_41, e41, h41_1, h41_2⟩ := hv 41 (by decide +kernel) (by decide +kernel)
    obtain ⟨ra_10, rn_10, rc_10, e10, h10_1⟩ := hv 10 (by decide +kernel) (by decide +kernel)
    obtain ⟨m0, em0, gm0, bm0⟩ := hbx _ List.mem_cons_self
    simp only [e37] at bm0
    obtain ⟨m1, em1, gm1, bm1⟩ := hbx _ (by apply List.mem_cons_of_mem; exact List.mem_cons_self)
    simp only [e41] at bm1
    rw [over_actBC6]
    refine hKs _ _ ?_
    unfold actBC6
    simp only [e36, e38, e40, e37, e39, e41, e10, em0, em1]
    have q0 : Blk w' m0 59 #[.int .i64 bs, .slice qa_37 qn_37 qc_37, .slice qd_37 qm_37 qe_37] := bm0
    have q1 : Blk w' m1 34 #[.slice sa_41 sn_41 sc_41, .int .i64 t.kind, .int .i64 t.idx, .slice sd_41 sm_41 se_41] := bm1
    have hgc := h37_1.t
    have hgm := h37_2.t
    have hgx := h10_1.t
    have hgb := h41_1.t
    have hgr : HoldsT w' okT t.args (.slice sd_41 sm_41 se_41) := h41_2.mono fun _ _ _ => trivial
    have ac := gc.bel hB
    have am := gm.bel hB
    have ax := gx.bel hB
    have ab := gb.bel hB
    have ar := gr.bel hB
    have ay := gy.bel hB
    have p0 := k0.below hB k0.lt
    have p1 := k1.below hB k1.lt
    have p2 := k2.below hB k2.lt
    have bl4 : Below N w w' := bl3.trans (hB.mono (by omega))
    have hzN : N ≤ w'.heap.size := by have := hB.size; omega
    clear bm0 bm1 h37_1 h37_2 h39_1 h10_1 h41_1 h41_2 gc gm gx gb gr gy k0 k1 k2 bl3 hv hbx hB gm0 gm1 e36 e37 e38 e39 e40 e41 e10 em0 em1 hKs hs3
    have hii : t.idx ≤ 9223372036854775807 := (((t.rng_eq).1 hrg).1.2).2
    have hbl := sizeL_length t.binds
    have htt2 := t.total_eq
    have hT1s : ((pickA cs ms ctx t.kind t.idx).getD (.mk [] 0)).size ≤ 1000 := by
      cases hp : pickA cs ms ctx t.kind t.idx with
      | none => decide
      | some h =>
        show h.size ≤ 1000
        rcases pickA_mem hp with h1 | h1 | h1
        · have := hsmall.2.2.2.1 h h1; omega
        · have := hsmall.2.2.2.2.1 h h1; omega
        · have := hsmall.2.2.2.2.2 h h1; omega
    have hT2s : ((t.typeOf cs ms ctx).getD (.mk [] 0)).size ≤ 1000 := by
      unfold Tm.typeOf
      cases pickA cs ms (ctx ++ t.binds) t.kind t.idx with
      | none => show (Ty.mk [] 0).size ≤ 1000; decide
      | some h => show (Ty.mk t.binds h.base).size ≤ 1000; rw [Ty.size_eq]; show 1 + sizeL t.binds ≤ 1000; omega
    have HSM : Hid _ := hsmall
    have hx20 := hsmall.2.2.1
    clear hsmall
    have K34 := HeadType_calls cs ms ctx bs t.kind t.idx _ _ _ w' hgc hgm hgx (by omega) (by omega) (by omega) hii
    have K35 := fun cur (h : Cur w' cur) => rht_head bs t.kind t.idx okT cs ms ctx _ _ _ cur (h.holds ac) (h.holds am) (h.holds ax) (by omega) hii
    have K36 := fun cur (h : Cur w' cur) => TypeOf_calls cs ms ctx t bs _ _ _ _ _ cur (h.holds hgc) (h.holds hgm) (h.holds hgx) (h.holds hgb) (hgr.bel h) (by omega) hii (by omega)
    have K37 := fun cur (h : Cur w' cur) => refTypeOf_calls cs ms ctx t bs _ _ _ _ _ cur (h.holds ac) (h.holds am) (h.holds ax) (h.holds ab) (ar.bel h) (by omega) hii
    obtain ⟨o1, ho1⟩ : ∃ o, pickA cs ms ctx t.kind t.idx = o := ⟨_, rfl⟩
    obtain ⟨o2, ho2⟩ : ∃ o, t.typeOf cs ms ctx = o := ⟨_, rfl⟩
    rw [ho1] at hT1s K34
    rw [ho2] at hT2s
    simp only [ho1] at K35
    simp only [ho2] at K36 K37
    have HO2 : Hid _ := ho2
    clear ho1 ho2
    obtain ⟨T1, hT1⟩ : ∃ T, o1.getD (.mk [] 0) = T := ⟨_, rfl⟩
    obtain ⟨T2, hT2⟩ : ∃ T, o2.getD (.mk [] 0) = T := ⟨_, rfl⟩
    obtain ⟨s1, hs1⟩ : ∃ s, o1.isSome = s := ⟨_, rfl⟩
    obtain ⟨s2, hs2⟩ : ∃ s, o2.isSome = s := ⟨_, rfl⟩
    obtain ⟨n1, hn1⟩ : ∃ n : Int, (if s1 then 0 else 10) = n := ⟨_, rfl⟩
    obtain ⟨n2, hn2⟩ : ∃ n : Int, (if s2 then 0 else 10) = n := ⟨_, rfl⟩
    have U1 : Hid (∀ w e, Told o1 w e → ∃ a n c, Holds w okT T1.args (.slice a n c) ∧ e = .returned (.tuple #[tv (.slice a n c) T1.base, .int .i64 n1])) := fun w e h => by
      have := told_uni h; rwa [hT1, hs1, hn1] at this
    have U2 : Hid (∀ w e, Found w okT o1 e → ∃ a n c, Holds w okT T1.args (.slice a n c) ∧ e = .returned (.tuple #[tv (.slice a n c) T1.base, .bool s1])) := fun w e h => by
      have := found_uni h; rwa [hT1, hs1] at this
    have U3 : Hid (∀ w e, Told o2 w e → ∃ a n c, Holds w okT T2.args (.slice a n c) ∧ e = .returned (.tuple #[tv (.slice a n c) T2.base, .int .i64 n2])) := fun w e h => by
      have := told_uni h; rwa [hT2, hs2, hn2] at this
    have U4 : Hid (∀ w e, Found w okT o2 e → ∃ a n c, Holds w okT T2.args (.slice a n c) ∧ e = .returned (.tuple #[tv (.slice a n c) T2.base, .bool s2])) := fun w e h => by
      have := found_uni h; rwa [hT2, hs2] at this
    rw [hT1] at hT1s
    rw [hT2] at hT2s
    clear hT1 hT2 hs1 hs2
    have c0 := q0.cell 0
    have c3 := q0.cell 1
    have c4 := q0.cell 2
    have c5 := q1.cell 1
    have c6 := q1.cell 2
    go_wp2_with fail
    refine K34.mono ?_
    clear K34 c0 c3 c4 c5 c6
    rintro e w5 ⟨hf, hb5⟩
    obtain ⟨d1, d2, d3, hd, rfl⟩ := U1.out _ _ hf
    clear hf U1
    obtain ⟨D, hD⟩ : ∃ n, w5.heap.size = n := ⟨_, rfl⟩
    obtain ⟨v5, hv5⟩ : ∃ v, w5.alloc (.cells #[.slice d1 d2 d3, .int .i64 T1.base] 63) = v := ⟨_, rfl⟩
    have bD : Blk v5 D 63 #[.slice d1 d2 d3, .int .i64 T1.base] := by rw [← hv5]; exact Blk.new' w5 D 63 _ hD
    have bbv5 : Below w5.heap.size w5 v5 := by rw [← hv5]; exact (Below.refl _ _).alloc (Nat.le_refl _) _
    have curv5 : Cur w' v5 := Cur.then (Cur.then (Cur.refl w') hb5) bbv5
    have hd := hd.bel bbv5
    have HBv5 : Hid _ := hv5
    clear hv5 bbv5
    have r0 := p0.below curv5 p0.lt
    have r1 := p1.below curv5 p1.lt
    have c0 := r0.cell 0
    have c3 := r0.cell 1
    have c4 := r0.cell 2
    have c5 := r1.cell 1
    have c6 := r1.cell 2
    have k35 := K35 v5 curv5
    clear K35 r0 r1 hb5
    go_upto_region 5 with fail
    rw [HBv5.out]
    clear HBv5 hD
    go_wp2_with fail
    refine k35.mono ?_
    clear k35 c0 c3 c4 c5 c6
    rintro e w6 ⟨hf, hb6⟩
    obtain ⟨f1, f2, f3, hfh, rfl⟩ := U2.out _ _ hf
    have hfh := hfh.bel hb6
    have hd := hd.bel hb6
    have bD := bD.below hb6 bD.lt
    clear hf U2
    obtain ⟨E, hE⟩ : ∃ n, w6.heap.size = n := ⟨_, rfl⟩
    obtain ⟨v6, hv6⟩ : ∃ v, w6.alloc (.cells #[.slice f1 f2 f3, .int .i64 T1.base] 55) = v := ⟨_, rfl⟩
    have bE : Blk v6 E 55 #[.slice f1 f2 f3, .int .i64 T1.base] := by rw [← hv6]; exact Blk.new' w6 E 55 _ hE
    have bbv6 : Below w6.heap.size w6 v6 := by rw [← hv6]; exact (Below.refl _ _).alloc (Nat.le_refl _) _
    have curv6 : Cur w' v6 := Cur.then (Cur.then curv5 hb6) bbv6
    have hfh := hfh.bel bbv6
    have HBv6 : Hid _ := hv6
    clear hv6 bbv6
    have hd := hd.bel (show Below w6.heap.size w6 v6 by rw [← HBv6.out]; exact (Below.refl _ _).alloc (Nat.le_refl _) _)
    have bD := bD.below (show Below w6.heap.size w6 v6 by rw [← HBv6.out]; exact (Below.refl _ _).alloc (Nat.le_refl _) _) bD.lt
    have r0 := q0.below curv6 q0.lt
    have r1 := q1.below curv6 q1.lt
    have c0 := r0.cell 0
    have c3 := r0.cell 1
    have c4 := r0.cell 2
    have c5 := r1.cell 0
    have c6 := r1.cell 1
    have c7 := r1.cell 2
    have c8 := r1.cell 3
    have k36 := K36 v6 curv6
    clear K36 r0 r1 hb6 curv5
    go_upto_region 6 with fail
    rw [HBv6.out]
    clear HBv6 hE
    go_wp2_with fail
    refine k36.mono ?_
    clear k36 c0 c3 c4 c5 c6 c7 c8
    rintro e w7 ⟨hf, hb7⟩
    obtain ⟨g1, g2, g3, hgh, rfl⟩ := U3.out _ _ hf
    have hfh := hfh.bel hb7
    have hd := hd.bel hb7
    have bD := bD.below hb7 bD.lt
    have bE := bE.below hb7 bE.lt
    clear hf U3
    obtain ⟨F, hF⟩ : ∃ n, w7.heap.size = n := ⟨_, rfl⟩
    obtain ⟨v7, hv7⟩ : ∃ v, w7.alloc (.cells #[.slice g1 g2 g3, .int .i64 T2.base] 63) = v := ⟨_, rfl⟩
    have bF : Blk v7 F 63 #[.slice g1 g2 g3, .int .i64 T2.base] := by rw [← hv7]; exact Blk.new' w7 F 63 _ hF
    have bbv7 : Below w7.heap.size w7 v7 := by rw [← hv7]; exact (Below.refl _ _).alloc (Nat.le_refl _) _
    have curv7 : Cur w' v7 := Cur.then (Cur.then curv6 hb7) bbv7
    have hgh := hgh.bel bbv7
    have HBv7 : Hid _ := hv7
    clear hv7 bbv7
    have bbv7 : Below w7.heap.size w7 v7 := by rw [← HBv7.out]; exact (Below.refl _ _).alloc (Nat.le_refl _) _
    have hd := hd.bel bbv7
    have hfh := hfh.bel bbv7
    have bD := bD.below bbv7 bD.lt
    have bE := bE.below bbv7 bE.lt
    have r0 := p0.below curv7 p0.lt
    have r1 := p1.below curv7 p1.lt
    have c0 := r0.cell 0
    have c3 := r0.cell 1
    have c4 := r0.cell 2
    have c5 := r1.cell 0
    have c6 := r1.cell 1
    have c7 := r1.cell 2
    have c8 := r1.cell 3
    have k37 := K37 v7 curv7
    clear K37 r0 r1 hb7 curv6 bbv7
    go_upto_region 7 with fail
    rw [HBv7.out]
    clear HBv7 hF
    go_wp2_with fail
    refine k37.mono ?_
    clear k37 c0 c3 c4 c5 c6 c7 c8
    rintro e w8 ⟨hf, hb8⟩
    obtain ⟨i1, i2, i3, hih, rfl⟩ := U4.out _ _ hf
    have hih0 := hih
    have hgh := hgh.bel hb8
    have hfh := hfh.bel hb8
    have hd := hd.bel hb8
    have bD := bD.below hb8 bD.lt
    have bE := bE.below hb8 bE.lt
    have bF := bF.below hb8 bF.lt
    clear hf U4 hih0
    obtain ⟨G, hG⟩ : ∃ n, w8.heap.size = n := ⟨_, rfl⟩
    obtain ⟨v8, hv8⟩ : ∃ v, w8.alloc (.cells #[.slice i1 i2 i3, .int .i64 T2.base] 55) = v := ⟨_, rfl⟩
    have bG : Blk v8 G 55 #[.slice i1 i2 i3, .int .i64 T2.base] := by rw [← hv8]; exact Blk.new' w8 G 55 _ hG
    have bbv8 : Below w8.heap.size w8 v8 := by rw [← hv8]; exact (Below.refl _ _).alloc (Nat.le_refl _) _
    have curv8 : Cur w' v8 := Cur.then (Cur.then curv7 hb8) bbv8
    have hih := hih.bel bbv8
    have HBv8 : Hid _ := hv8
    clear hv8 bbv8
    have bbv8 : Below w8.heap.size w8 v8 := by rw [← HBv8.out]; exact (Below.refl _ _).alloc (Nat.le_refl _) _
    have hd := hd.bel bbv8
    have hfh := hfh.bel bbv8
    have hgh := hgh.bel bbv8
    have bD := bD.below bbv8 bD.lt
    have bE := bE.below bbv8 bE.lt
    have bF := bF.below bbv8 bF.lt
    have q0 := q0.below curv8 q0.lt
    have q1 := q1.below curv8 q1.lt
    have p0 := p0.below curv8 p0.lt
    have p1 := p1.below curv8 p1.lt
    have p2 := p2.below curv8 p2.lt
    have hgc := curv8.holds hgc
    have hgm := curv8.holds hgm
    have hgx := curv8.holds hgx
    have hgb := curv8.holds hgb
    have hgr := hgr.bel curv8
    have ac := curv8.holds ac
    have am := curv8.holds am
    have ax := curv8.holds ax
    have ab := curv8.holds ab
    have ar := ar.bel curv8
    have ay := curv8.holds ay
    have bl8 : Below N w v8 := bl4.trans (Below.mono curv8 hzN)
    have hz8 : N ≤ v8.heap.size := by have := bl8.size; have := Below.size curv8; omega
    clear bbv8 hb8 curv7 curv8 bl4
    go_upto_region 8 with fail
    rw [HBv8.out]
    clear HBv8 hG
    have ofT : ∀ (T : Ty) (sl : Value), T.size ≤ 1000 → Holds v8 okT T.args sl → ∀ cur, Cur v8 cur → Calls Try.prog 39 #[tv sl T.base] cur fun e w' => ∃ a n c, e = .returned (tv (.slice a n c) T.base) ∧ Holds w' okT T.args (.slice a n c) ∧ Cur v8 w' := fun T sl hz hh cur hc =>
      (Of_calls T okT sl cur (hc.holds hh) (by omega)).mono fun e w' ⟨v, h1, h2, h3⟩ => by
        obtain ⟨a, c, rfl, _⟩ := h2.shape
        exact ⟨a, _, c, h1, h2.t, hc.then h3⟩
    have toT : ∀ (T : Ty) (sl : Value), T.size ≤ 1000 → Holds v8 okT T.args sl → ∀ cur, Cur v8 cur → Calls Try.prog 41 #[tv sl T.base] cur fun e w' => ∃ a n c, e = .returned (tv (.slice a n c) T.base) ∧ Holds w' okT T.args (.slice a n c) ∧ Cur v8 w' := fun T sl hz hh cur hc =>
      (To_calls T okT sl cur (hc.holds hh) (by omega)).mono fun e w' ⟨v, h1, h2, h3⟩ => by
        obtain ⟨a, c, rfl, _⟩ := h2.shape
        exact ⟨a, _, c, h1, h2.t, hc.then h3⟩
    have samT : ∀ (T : Ty) (sl sl' : Value) cur, T.size ≤ 1000 → Cur v8 cur → Holds cur okT T.args sl → Holds v8 okT T.args sl' → Calls Try.prog 38 #[tv sl T.base, tv sl' T.base] cur fun e w' => e = .returned (.bool true) ∧ Cur v8 w' := fun T sl sl' cur hz hc h1 h2 => by
      have := Calls.cur hc (Same_calls T T okT okT sl sl' cur h1 (hc.holds h2) (by omega))
      rwa [T.same_self] at this
    have chk : ∀ (T : Ty) (sl : Value) cur, Cur v8 cur → Holds cur okT T.args sl → Calls Try.prog 40 #[wov bs (.slice qa_37 qn_37 qc_37) (.slice qd_37 qm_37 qe_37), .slice ra_10 rn_10 rc_10, tmv (.slice sa_41 sn_41 sc_41) t.kind t.idx (.slice sd_41 sm_41 se_41), tv sl T.base] cur fun e w' => e = .returned (.int .i64 (chkI cs ms ctx t T)) ∧ Cur v8 w' := fun T sl cur hc h1 =>
      Calls.cur hc (Check_calls cs ms ctx t T bs _ _ _ _ _ _ cur (hc.holds hgc) (hc.holds hgm) (hc.holds hgx) (hc.holds hgb) (hgr.bel hc) h1 hrg (by omega))
    have rchk : ∀ (T : Ty) (sl : Value) cur, Cur v8 cur → Holds v8 okT T.args sl → Calls Try.prog 42 #[wov bs (.slice c1 cn c2) (.slice u1 un u2), .slice a1 an a2, tmv (.slice x1 x2 x3) t.kind t.idx (.slice y1 y2 y3), tv sl T.base] cur fun e w' => e = .returned (.int .i64 (chkI cs ms ctx t T)) ∧ Cur v8 w' := fun T sl cur hc h1 =>
      Calls.cur hc (refCheck_calls cs ms ctx t T bs _ _ _ _ _ _ cur (hc.holds ac) (hc.holds am) (hc.holds ax) (hc.holds ab) (ar.bel hc) (hc.holds h1) hrg (by omega))
    have rw1 : ∀ cur, Cur v8 cur → Calls Try.prog 43 #[wov bs (.slice qa_37 qn_37 qc_37) (.slice qd_37 qm_37 qe_37)] cur fun e w' => e = .returned (.bool (cs.all (rightB bs) && ms.all (rightB bs))) ∧ Cur v8 w' := fun cur hc =>
      Calls.cur hc (RightWorld_calls cs ms bs _ _ cur (hc.holds hgc) (hc.holds hgm) HSM.out.1 HSM.out.2.1 HSM.out.2.2.2.1 HSM.out.2.2.2.2.1)
    have rw2 : ∀ cur, Cur v8 cur → Calls Try.prog 44 #[wov bs (.slice c1 cn c2) (.slice u1 un u2)] cur fun e w' => e = .returned (.bool (cs.all (rightB bs) && ms.all (rightB bs))) ∧ Cur v8 w' := fun cur hc =>
      Calls.cur hc (refRightWorld_calls cs ms bs _ _ cur (hc.holds ac) (hc.holds am) HSM.out.1 HSM.out.2.1 HSM.out.2.2.2.1 HSM.out.2.2.2.2.1)
    have k10 := fun (cur : World) (hc : Cur v8 cur) => Calls.cur hc (known_calls cur)
    have o1a := ofT T1 _ hT1s hd
    have o2a := ofT T2 _ hT2s hgh
    have s1a := fun cur hc a n c (h : Holds cur okT T1.args (.slice a n c)) => samT T1 _ _ cur hT1s hc h hfh
    have s2a := fun cur hc a n c (h : Holds cur okT T2.args (.slice a n c)) => samT T2 _ _ cur hT2s hc h hih
    have t1a := toT ty _ (by omega) ay
    have t2a := toT T2 _ hT2s hih
    have ch1 := fun cur hc a n c (h : Holds cur okT ty.args (.slice a n c)) => chk ty _ cur hc h
    have ch2 := fun cur hc a n c (h : Holds cur okT T2.args (.slice a n c)) => chk T2 _ cur hc h
    have rc1 := fun cur hc => rchk ty _ cur hc ay
    have rc2 := fun cur hc => rchk T2 _ cur hc hih
    obtain ⟨e1, he1⟩ : ∃ e, chkI cs ms ctx t ty = e := ⟨_, rfl⟩
    obtain ⟨e2, he2⟩ : ∃ e, chkI cs ms ctx t T2 = e := ⟨_, rfl⟩
    obtain ⟨wr, hwr⟩ : ∃ e, (cs.all (rightB bs) && ms.all (rightB bs)) = e := ⟨_, rfl⟩
    simp only [he1] at ch1 rc1
    simp only [he2] at ch2 rc2
    simp only [hwr] at rw1 rw2
    have zz1 : (e1 != e1) = false := bne_self_eq_false e1
    have zz2 : (e2 != e2) = false := bne_self_eq_false e2
    have zz3 : (wr == wr) = true := beq_self_eq_true wr
    have D0 := bD.cell 0
    have D1 := bD.cell 1
    have E0 := bE.cell 0
    have E1 := bE.cell 1
    have F0 := bF.cell 0
    have F1 := bF.cell 1
    have G0 := bG.cell 0
    have G1 := bG.cell 1
    have A0 := q0.cell 0
    have A1 := q0.cell 1
    have A2 := q0.cell 2
    have B0 := q1.cell 0
    have B1 := q1.cell 1
    have B2 := q1.cell 2
    have B3 := q1.cell 3
    have N0 := p0.cell 0
    have N1 := p0.cell 1
    have N2 := p0.cell 2
    have O0 := p1.cell 0
    have O1 := p1.cell 1
    have O2 := p1.cell 2
    have O3 := p1.cell 3
    have Q0 := p2.cell 0
    have Q1 := p2.cell 1
    have hK8 : ∀ v, Cur v8 v → v.cell? ⟨D, 0, none⟩ = some (.slice d1 d2 d3) ∧ v.cell? ⟨D, 1, none⟩ = some (.int .i64 T1.base) ∧ v.cell? ⟨E, 0, none⟩ = some (.slice f1 f2 f3) ∧ v.cell? ⟨E, 1, none⟩ = some (.int .i64 T1.base) ∧ v.cell? ⟨F, 0, none⟩ = some (.slice g1 g2 g3) ∧ v.cell? ⟨F, 1, none⟩ = some (.int .i64 T2.base) ∧ v.cell? ⟨G, 0, none⟩ = some (.slice i1 i2 i3) ∧ v.cell? ⟨G, 1, none⟩ = some (.int .i64 T2.base) := fun v hv => ⟨hv.cell D0, hv.cell D1, hv.cell E0, hv.cell E1, hv.cell F0, hv.cell F1, hv.cell G0, hv.cell G1⟩
    have hK10 : ∀ v, Cur v8 v → v.cell? ⟨m0, 0, none⟩ = some (.int .i64 bs) ∧ v.cell? ⟨m0, 1, none⟩ = some (.slice qa_37 qn_37 qc_37) ∧ v.cell? ⟨m0, 2, none⟩ = some (.slice qd_37 qm_37 qe_37) ∧ v.cell? ⟨m1, 0, none⟩ = some (.slice sa_41 sn_41 sc_41) ∧ v.cell? ⟨m1, 1, none⟩ = some (.int .i64 t.kind) ∧ v.cell? ⟨m1, 2, none⟩ = some (.int .i64 t.idx) ∧ v.cell? ⟨m1, 3, none⟩ = some (.slice sd_41 sm_41 se_41) ∧ v.cell? ⟨N + 1 + 1, 0, none⟩ = some (.slice z1 z2 z3) ∧ v.cell? ⟨N + 1 + 1, 1, none⟩ = some (.int .i64 ty.base) ∧ v.cell? ⟨N, 0, none⟩ = some (.int .i64 bs) ∧ v.cell? ⟨N, 1, none⟩ = some (.slice c1 cn c2) ∧ v.cell? ⟨N, 2, none⟩ = some (.slice u1 un u2) ∧ v.cell? ⟨N + 1, 0, none⟩ = some (.slice x1 x2 x3) ∧ v.cell? ⟨N + 1, 1, none⟩ = some (.int .i64 t.kind) ∧ v.cell? ⟨N + 1, 2, none⟩ = some (.int .i64 t.idx) ∧ v.cell? ⟨N + 1, 3, none⟩ = some (.slice y1 y2 y3) ∧ v.cell? ⟨G, 0, none⟩ = some (.slice i1 i2 i3) ∧ v.cell? ⟨G, 1, none⟩ = some (.int .i64 T2.base) := fun v hv => ⟨hv.cell A0, hv.cell A1, hv.cell A2, hv.cell B0, hv.cell B1, hv.cell B2, hv.cell B3, hv.cell Q0, hv.cell Q1, hv.cell N0, hv.cell N1, hv.cell N2, hv.cell O0, hv.cell O1, hv.cell O2, hv.cell O3, hv.cell G0, hv.cell G1⟩
    have hK12 : ∀ v, Cur v8 v → v.cell? ⟨m0, 0, none⟩ = some (.int .i64 bs) ∧ v.cell? ⟨m0, 1, none⟩ = some (.slice qa_37 qn_37 qc_37) ∧ v.cell? ⟨m0, 2, none⟩ = some (.slice qd_37 qm_37 qe_37) ∧ v.cell? ⟨N, 0, none⟩ = some (.int .i64 bs) ∧ v.cell? ⟨N, 1, none⟩ = some (.slice c1 cn c2) ∧ v.cell? ⟨N, 2, none⟩ = some (.slice u1 un u2) := fun v hv => ⟨hv.cell A0, hv.cell A1, hv.cell A2, hv.cell N0, hv.cell N1, hv.cell N2⟩
    clear D0 D1 E0 E1 F0 F1 G0 G1 A0 A1 A2 B0 B1 B2 B3 N0 N1 N2 O0 O1 O2 O3 Q0 Q1 q0 q1 p0 p1 p2 bD bE bF bG hd hfh hgh hih ofT toT samT chk rchk he1 he2 hwr HSM HO2
    have hcur := Cur.refl v8
    go_cut [111] (fun s111 wx => s111 = .bool false ∧ Below v8.heap.size v8 wx)
    case first =>
      clear ch1 ch2 rc1 rc2 t1a t2a hK10 hK12 rw1 rw2 k10 zz1 zz2 zz3
      cases s1 <;> cases s2 <;> (simp only [Bool.false_eq_true, if_true, if_false] at hn1 hn2; subst hn1; subst hn2)
      all_goals
        first
          | (go_region_held_law (fun v => v.cell? ⟨D, 0, none⟩ = some (.slice d1 d2 d3) ∧ v.cell? ⟨D, 1, none⟩ = some (.int .i64 T1.base) ∧ v.cell? ⟨E, 0, none⟩ = some (.slice f1 f2 f3) ∧ v.cell? ⟨E, 1, none⟩ = some (.int .i64 T1.base) ∧ v.cell? ⟨F, 0, none⟩ = some (.slice g1 g2 g3) ∧ v.cell? ⟨F, 1, none⟩ = some (.int .i64 T2.base) ∧ v.cell? ⟨G, 0, none⟩ = some (.slice i1 i2 i3) ∧ v.cell? ⟨G, 1, none⟩ = some (.int .i64 T2.base))
                (first | exact hK8 _ (by first | with_reducible assumption | (with_reducible refine Cur.drew ?_; assumption)))
                (first
                  | (go_at_call 39; have _ := hb2; refine (o2a _ (by first | with_reducible assumption | (with_reducible refine Cur.drew ?_; assumption))).mono ?_; rintro e V3 ⟨ta, tn, tc, rfl, hb3, j3⟩)
                  | (go_at_call 39; refine (o1a _ (by first | with_reducible assumption | (with_reducible refine Cur.drew ?_; assumption))).mono ?_; rintro e V1 ⟨pa, pn, pc, rfl, hb1, j1⟩)
                  | (go_at_call 38; have _ := hb3; refine (s2a _ (by first | with_reducible assumption | (with_reducible refine Cur.drew ?_; assumption)) _ _ _ (by first | exact hb3 | exact hb3.drew)).mono ?_; rintro e V4 ⟨rfl, j4⟩)
                  | (go_at_call 38; refine (s1a _ (by first | with_reducible assumption | (with_reducible refine Cur.drew ?_; assumption)) _ _ _ (by first | exact hb1 | exact hb1.drew)).mono ?_; rintro e V2 ⟨rfl, j2⟩; have hb2 := trivial)))
          | fail
        go_wp2_with fail
        go_meet
        exact ⟨rfl, by assumption⟩
    case rest =>
    obtain ⟨rfl, hbc⟩ := hcut
    have hcur : Cur v8 wc := hbc
    clear o1a o2a s1a s2a hK8 hbc
    go_upto_region 10 with fail
    cases s2 with
    | false =>
      rename_i K Q' hKs
      refine (wpIn_wide (n := 9)).1 ?_
      show Code.wpIn Fence.wide 9 Try.prog (Code.region 10 _ true) _ (actT10 N (ptrTo m0) (.slice ra_10 rn_10 rc_10) (ptrTo m1) (.slice a1 an a2) (wov bs (Value.slice c1 cn c2) (Value.slice u1 un u2)) (tmv (Value.slice x1 x2 x3) t.kind t.idx (Value.slice y1 y2 y3)) (tv (Value.slice z1 z2 z3) ty.base) (undef) (Value.bool false) (Value.pointer (some { block := D, off := 0 })) (Value.int IntKind.i64 n1) (Value.pointer (some { block := E, off := 0 })) (Value.bool s1) (Value.pointer (some { block := F, off := 0 })) (Value.int IntKind.i64 n2) (Value.pointer (some { block := G, off := 0 })) (u20) (u21) (u22) (u23) (u24) (u25) (u26) (u27) (u28) (u29) (u30) (u31) (u32) (u33) (u34) (u35) (u36) (u37) (u38) (u39) (u40) (u41) (u42) (u43) (u44) (u45) (u46) (u47) (u48) (u49) (u50) (u51) (u52) (u53) (u54) (u55) (u56) (u57) (u58) (u59) (u60) (u61) (u62) (u63) (u64) (u65) (u66) (u67) (u68) (u69) (u70) (u71) (u72) (u73) (u74) (u75) (u76) (u77) (u78) (u79) (u80) (u81) (u82) (u83) (u84) (u85) (u86) (u87) (u88) (u89) (u90) (u91) (u92) (u93) (u94) (u95) (u96) (u97) (u98) (u99) (u100) (u101) (u102) (u103) (u104) (u105) (u106) (u107) (u108) (u109) (u110) (Value.bool false) (u141) (u142) (u143) (u144) (u145) (u146) (u147) (u148) (fun | 112 => u112 | 113 => u113 | 114 => u114 | 115 => u115 | 116 => u116 | 117 => u117 | 118 => u118 | 119 => u119 | 120 => u120 | 121 => u121 | 122 => u122 | 123 => u123 | 124 => u124 | 125 => u125 | 126 => u126 | 127 => u127 | 128 => u128 | 129 => u129 | 130 => u130 | 131 => u131 | 132 => u132 | 133 => u133 | 134 => u134 | 135 => u135 | 136 => u136 | 137 => u137 | 138 => u138 | 139 => u139 | 140 => u140 | _ => undef)) wc
      refine region_spine [(0, 0), (1, 0), (2, 0), (3, 0), (4, 0), (5, 0), (6, 0), (7, 0), (8, 0), (9, 0), (10, 0), (11, 0), (12, 0), (13, 0), (14, 0), (15, 0), (16, 0), (17, 0), (18, 0), (19, 0), (20, 0), (21, 0), (22, 0), (23, 0), (24, 0), (25, 0), (26, 0), (27, 0), (28, 0)] [] (fun s => Nat.ble 112 s && Nat.ble s 140) (fun _ => VT10 cs ms ctx t ty (.agg #[.int .i64 bs, .slice qa_37 qn_37 qc_37, .slice qd_37 qm_37 qe_37]) (.slice ra_10 rn_10 rc_10) (tmv (.slice sa_41 sn_41 sc_41) t.kind t.idx (.slice sd_41 sm_41 se_41)) (tv (.slice z1 z2 z3) ty.base) (.agg #[.int .i64 bs, .slice c1 cn c2, .slice u1 un u2]) (.slice a1 an a2) (tmv (.slice x1 x2 x3) t.kind t.idx (.slice y1 y2 y3))) (fun _ w => Below (wc).heap.size wc w) (by kernel_rfl) (by kernel_rfl) (by kernel_rfl) (by kernel_rfl) (fun _ _ _ _ _ h hb => h.mono hb) (fun _ _ _ h hb => h.trans (hb.mono h.size)) ((Below.refl _ _).drew) ⟨?_, ?_, ?_, ?_, ?_, ?_, ?_, ?_, ?_, ?_, ?_, ?_, ?_, ?_, ?_, ?_, ?_, ?_, ?_, ?_, ?_, ?_, ?_, ?_, ?_, ?_, ?_, ?_, ?_, trivial⟩ trivial ?_
      · intro o ho p hp _ z w hB hk K' hK
        cases ho
        have hcw : Cur v8 w := hcur.then hB
        obtain ⟨A0, A1, A2, B0, B1, B2, B3, Q0, Q1, N0, N1, N2, O0, O1, O2, O3, _, _⟩ := hK10 w hcw
        have hK3 := hK (.agg #[.int .i64 bs, .slice qa_37 qn_37 qc_37, .slice qd_37 qm_37 qe_37]) w (fun s hs => by cases hs; exact rfl) (Below.refl _ _)
        simp only [over_actT10] at hK3 ⊢
        clear hK hk
        unfold actT10 at hK3 ⊢
        refine want_plain rfl ?_
        go_simp
        exact hK3
      · intro o ho p hp _ z w hB hk K' hK
        cases ho
        have hK3 := hK (.slice ra_10 rn_10 rc_10) w (fun s hs => by cases hs; exact rfl) (Below.refl _ _)
        simp only [over_actT10] at hK3 ⊢
        clear hK hk
        unfold actT10 at hK3 ⊢
        refine want_plain rfl ?_
        go_simp
        exact hK3
      · intro o ho p hp _ z w hB hk K' hK
        cases ho
        have hcw : Cur v8 w := hcur.then hB
        obtain ⟨A0, A1, A2, B0, B1, B2, B3, Q0, Q1, N0, N1, N2, O0, O1, O2, O3, _, _⟩ := hK10 w hcw
        have hK3 := hK (tmv (.slice sa_41 sn_41 sc_41) t.kind t.idx (.slice sd_41 sm_41 se_41)) w (fun s hs => by cases hs; exact rfl) (Below.refl _ _)
        simp only [over_actT10] at hK3 ⊢
        clear hK hk
        unfold actT10 at hK3 ⊢
        refine want_plain rfl ?_
        go_simp
        exact hK3
      · intro o ho p hp _ z w hB hk K' hK
        cases ho
        have hcw : Cur v8 w := hcur.then hB
        obtain ⟨A0, A1, A2, B0, B1, B2, B3, Q0, Q1, N0, N1, N2, O0, O1, O2, O3, _, _⟩ := hK10 w hcw
        have hK3 := hK (tv (.slice z1 z2 z3) ty.base) w (fun s hs => by cases hs; exact rfl) (Below.refl _ _)
        simp only [over_actT10] at hK3 ⊢
        clear hK hk
        unfold actT10 at hK3 ⊢
        refine want_plain rfl ?_
        go_simp
        exact hK3
      · intro o ho p hp _ z w hB hk K' hK
        cases ho
        have e115 : z 115 = tv (.slice z1 z2 z3) ty.base := hk 115 (by decide +kernel) rfl
        have hcw : Cur v8 w := hcur.then hB
        have hcall := To_calls ty okT _ w (hcw.holds ay) (by omega)
        have hK3 := fun (w2 : World) (ka : Option Addr) (kn kc : Nat) (h1 : Holds w2 okT ty.args (.slice ka kn kc)) (hb2 : Below w.heap.size w w2) => hK (tv (.slice ka kn kc) ty.base) w2 (fun s hs => by cases hs; exact ⟨ka, kn, kc, rfl, h1⟩) hb2
        simp only [over_actT10] at hK3 ⊢
        clear hK hk
        unfold actT10 at hK3 ⊢
        simp only [e115] at hK3 ⊢
        refine want_plain rfl ?_
        go_simp
        refine ⟨trivial, (callsIn_wide.2 hcall).mono ?_⟩
        rintro e w2 ⟨vv, rfl, h1, hbw⟩
        obtain ⟨ka, kc, rfl, _⟩ := h1.shape
        exact hK3 w2 ka _ kc h1.t hbw
      · intro o ho p hp _ z w hB hk K' hK
        cases ho
        have e112 : z 112 = .agg #[.int .i64 bs, .slice qa_37 qn_37 qc_37, .slice qd_37 qm_37 qe_37] := hk 112 (by decide +kernel) rfl
        have e113 : z 113 = .slice ra_10 rn_10 rc_10 := hk 113 (by decide +kernel) rfl
        have e114 : z 114 = tmv (.slice sa_41 sn_41 sc_41) t.kind t.idx (.slice sd_41 sm_41 se_41) := hk 114 (by decide +kernel) rfl
        have hcw : Cur v8 w := hcur.then hB
        obtain ⟨ka, kn, kc, e116, h116⟩ := hk 116 (by decide +kernel) rfl
        have hcall := Check_calls cs ms ctx t ty bs _ _ _ _ _ _ w (hcw.holds hgc) (hcw.holds hgm) (hcw.holds hgx) (hcw.holds hgb) (hgr.bel hcw) h116 hrg (by omega)
        have hK3 := fun (w2 : World) (hb2 : Below w.heap.size w w2) => hK (.int .i64 (chkI cs ms ctx t ty)) w2 (fun s hs => by cases hs; exact rfl) hb2
        simp only [over_actT10] at hK3 ⊢
        clear hK hk
        unfold actT10 at hK3 ⊢
        simp only [e112, e113, e114, e116] at hK3 ⊢
        refine want_plain rfl ?_
        go_simp
        refine ⟨trivial, (callsIn_wide.2 hcall).mono ?_⟩
        rintro e w2 ⟨rfl, hb2⟩
        exact hK3 w2 hb2
      · intro o ho p hp _ z w hB hk K' hK
        cases ho
        have hcw : Cur v8 w := hcur.then hB
        obtain ⟨A0, A1, A2, B0, B1, B2, B3, Q0, Q1, N0, N1, N2, O0, O1, O2, O3, _, _⟩ := hK10 w hcw
        have hK3 := hK (.agg #[.int .i64 bs, .slice c1 cn c2, .slice u1 un u2]) w (fun s hs => by cases hs; exact rfl) (Below.refl _ _)
        simp only [over_actT10] at hK3 ⊢
        clear hK hk
        unfold actT10 at hK3 ⊢
        refine want_plain rfl ?_
        go_simp
        exact hK3
      · intro o ho p hp _ z w hB hk K' hK
        cases ho
        have hK3 := hK (.slice a1 an a2) w (fun s hs => by cases hs; exact rfl) (Below.refl _ _)
        simp only [over_actT10] at hK3 ⊢
        clear hK hk
        unfold actT10 at hK3 ⊢
        refine want_plain rfl ?_
        go_simp
        exact hK3
      · intro o ho p hp _ z w hB hk K' hK
        cases ho
        have hcw : Cur v8 w := hcur.then hB
        obtain ⟨A0, A1, A2, B0, B1, B2, B3, Q0, Q1, N0, N1, N2, O0, O1, O2, O3, _, _⟩ := hK10 w hcw
        have hK3 := hK (tmv (.slice x1 x2 x3) t.kind t.idx (.slice y1 y2 y3)) w (fun s hs => by cases hs; exact rfl) (Below.refl _ _)
        simp only [over_actT10] at hK3 ⊢
        clear hK hk
        unfold actT10 at hK3 ⊢
        refine want_plain rfl ?_
        go_simp
        exact hK3
      · intro o ho p hp _ z w hB hk K' hK
        cases ho
        have hcw : Cur v8 w := hcur.then hB
        obtain ⟨A0, A1, A2, B0, B1, B2, B3, Q0, Q1, N0, N1, N2, O0, O1, O2, O3, _, _⟩ := hK10 w hcw
        have hK3 := hK (tv (.slice z1 z2 z3) ty.base) w (fun s hs => by cases hs; exact rfl) (Below.refl _ _)
        simp only [over_actT10] at hK3 ⊢
        clear hK hk
        unfold actT10 at hK3 ⊢
        refine want_plain rfl ?_
        go_simp
        exact hK3
      · intro o ho p hp _ z w hB hk K' hK
        cases ho
        have e118 : z 118 = .agg #[.int .i64 bs, .slice c1 cn c2, .slice u1 un u2] := hk 118 (by decide +kernel) rfl
        have e119 : z 119 = .slice a1 an a2 := hk 119 (by decide +kernel) rfl
        have e120 : z 120 = tmv (.slice x1 x2 x3) t.kind t.idx (.slice y1 y2 y3) := hk 120 (by decide +kernel) rfl
        have e121 : z 121 = tv (.slice z1 z2 z3) ty.base := hk 121 (by decide +kernel) rfl
        have hcw : Cur v8 w := hcur.then hB
        have hcall := refCheck_calls cs ms ctx t ty bs _ _ _ _ _ _ w (hcw.holds ac) (hcw.holds am) (hcw.holds ax) (hcw.holds ab) (ar.bel hcw) (hcw.holds ay) hrg (by omega)
        have hK3 := fun (w2 : World) (hb2 : Below w.heap.size w w2) => hK (.int .i64 (chkI cs ms ctx t ty)) w2 (fun s hs => by cases hs; exact rfl) hb2
        simp only [over_actT10] at hK3 ⊢
        clear hK hk
        unfold actT10 at hK3 ⊢
        simp only [e118, e119, e120, e121] at hK3 ⊢
        refine want_plain rfl ?_
        go_simp
        refine ⟨trivial, (callsIn_wide.2 hcall).mono ?_⟩
        rintro e w2 ⟨rfl, hb2⟩
        exact hK3 w2 hb2
      · intro o ho p hp _ z w hB hk K' hK
        cases ho
        have e117 : z 117 = .int .i64 (chkI cs ms ctx t ty) := hk 117 (by decide +kernel) rfl
        have e122 : z 122 = .int .i64 (chkI cs ms ctx t ty) := hk 122 (by decide +kernel) rfl
        have zzz : (chkI cs ms ctx t ty != chkI cs ms ctx t ty) = false := bne_self_eq_false _
        have hK3 := hK (.bool false) w (fun s hs => by cases hs; exact rfl) (Below.refl _ _)
        simp only [over_actT10] at hK3 ⊢
        clear hK hk
        unfold actT10 at hK3 ⊢
        simp only [e117, e122] at hK3 ⊢
        refine want_plain rfl ?_
        go_simp
        exact hK3
      · intro o ho p hp _ z w hB hk K' hK
        cases ho
        have e123 : z 123 = .bool false := hk 123 (by decide +kernel) rfl
        have hK3 := hK (.bool false) w (fun s hs => by cases hs; exact rfl) (Below.refl _ _)
        simp only [over_actT10] at hK3 ⊢
        clear hK hk
        unfold actT10 at hK3 ⊢
        simp only [e123] at hK3 ⊢
        refine want_plain rfl ?_
        go_simp
        exact hK3
      · intro o ho p hp _ z w hB hk K' hK
        cases ho
        have e124 : z 124 = .bool false := hk 124 (by decide +kernel) rfl
        have hK3 := hK (.bool false) w (fun s hs => by cases hs; exact rfl) (Below.refl _ _)
        simp only [over_actT10] at hK3 ⊢
        clear hK hk
        unfold actT10 at hK3 ⊢
        simp only [e124] at hK3 ⊢
        refine want_yes rfl (by rfl) ?_
        go_simp
        exact hK3
      · intro o ho p hp _ z w hB hk K' hK
        cases ho
        have e125 : z 125 = .bool false := hk 125 (by decide +kernel) rfl
        have e124 : z 124 = .bool false := hk 124 (by decide +kernel) rfl
        have hK3 := hK (.bool false) w (fun s hs => by cases hs; exact rfl) (Below.refl _ _)
        simp only [over_actT10] at hK3 ⊢
        clear hK hk
        unfold actT10 at hK3 ⊢
        simp only [e125, e124] at hK3 ⊢
        refine want_yes rfl (by rfl) ?_
        go_simp
        exact hK3
      · intro o ho p hp _ z w hB hk K' hK
        cases ho
        have e126 : z 126 = .bool false := hk 126 (by decide +kernel) rfl
        have hK3 := hK undef w (fun s hs => by cases hs; exact rfl) (Below.refl _ _)
        simp only [over_actT10] at hK3 ⊢
        clear hK hk
        unfold actT10 at hK3 ⊢
        simp only [e126] at hK3 ⊢
        refine want_no rfl (fun h => by cases (show (some false : Option Bool) = some true from h)) ⟨fun _ _ => trivial, hK3⟩
      · intro o ho p hp _ z w hB hk K' hK
        cases ho
        have e126 : z 126 = .bool false := hk 126 (by decide +kernel) rfl
        have hK3 := hK undef w (fun s hs => by cases hs; exact rfl) (Below.refl _ _)
        simp only [over_actT10] at hK3 ⊢
        clear hK hk
        unfold actT10 at hK3 ⊢
        simp only [e126] at hK3 ⊢
        refine want_no rfl (fun h => by cases (show (some false : Option Bool) = some true from h)) ⟨fun _ _ => trivial, hK3⟩
      · intro o ho p hp _ z w hB hk K' hK
        cases ho
        have e126 : z 126 = .bool false := hk 126 (by decide +kernel) rfl
        have hK3 := hK undef w (fun s hs => by cases hs; exact rfl) (Below.refl _ _)
        simp only [over_actT10] at hK3 ⊢
        clear hK hk
        unfold actT10 at hK3 ⊢
        simp only [e126] at hK3 ⊢
        refine want_no rfl (fun h => by cases (show (some false : Option Bool) = some true from h)) ⟨fun _ _ => trivial, hK3⟩
      · intro o ho p hp _ z w hB hk K' hK
        cases ho
        have e126 : z 126 = .bool false := hk 126 (by decide +kernel) rfl
        have hK3 := hK undef w (fun s hs => by cases hs; exact rfl) (Below.refl _ _)
        simp only [over_actT10] at hK3 ⊢
        clear hK hk
        unfold actT10 at hK3 ⊢
        simp only [e126] at hK3 ⊢
        refine want_no rfl (fun h => by cases (show (some false : Option Bool) = some true from h)) ⟨fun _ _ => trivial, hK3⟩
      · intro o ho p hp _ z w hB hk K' hK
        cases ho
        have e126 : z 126 = .bool false := hk 126 (by decide +kernel) rfl
        have hK3 := hK undef w (fun s hs => by cases hs; exact rfl) (Below.refl _ _)
        simp only [over_actT10] at hK3 ⊢
        clear hK hk
        unfold actT10 at hK3 ⊢
        simp only [e126] at hK3 ⊢
        refine want_no rfl (fun h => by cases (show (some false : Option Bool) = some true from h)) ⟨fun _ _ => trivial, hK3⟩
      · intro o ho p hp _ z w hB hk K' hK
        cases ho
        have e126 : z 126 = .bool false := hk 126 (by decide +kernel) rfl
        have hK3 := hK undef w (fun s hs => by cases hs; exact rfl) (Below.refl _ _)
        simp only [over_actT10] at hK3 ⊢
        clear hK hk
        unfold actT10 at hK3 ⊢
        simp only [e126] at hK3 ⊢
        refine want_no rfl (fun h => by cases (show (some false : Option Bool) = some true from h)) ⟨fun _ _ => trivial, hK3⟩
      · intro o ho p hp _ z w hB hk K' hK
        cases ho
        have e126 : z 126 = .bool false := hk 126 (by decide +kernel) rfl
        have hK3 := hK undef w (fun s hs => by cases hs; exact rfl) (Below.refl _ _)
        simp only [over_actT10] at hK3 ⊢
        clear hK hk
        unfold actT10 at hK3 ⊢
        simp only [e126] at hK3 ⊢
        refine want_no rfl (fun h => by cases (show (some false : Option Bool) = some true from h)) ⟨fun _ _ => trivial, hK3⟩
      · intro o ho p hp _ z w hB hk K' hK
        cases ho
        have e126 : z 126 = .bool false := hk 126 (by decide +kernel) rfl
        have hK3 := hK undef w (fun s hs => by cases hs; exact rfl) (Below.refl _ _)
        simp only [over_actT10] at hK3 ⊢
        clear hK hk
        unfold actT10 at hK3 ⊢
        simp only [e126] at hK3 ⊢
        refine want_no rfl (fun h => by cases (show (some false : Option Bool) = some true from h)) ⟨fun _ _ => trivial, hK3⟩
      · intro o ho p hp _ z w hB hk K' hK
        cases ho
        have e126 : z 126 = .bool false := hk 126 (by decide +kernel) rfl
        have hK3 := hK undef w (fun s hs => by cases hs; exact rfl) (Below.refl _ _)
        simp only [over_actT10] at hK3 ⊢
        clear hK hk
        unfold actT10 at hK3 ⊢
        simp only [e126] at hK3 ⊢
        refine want_no rfl (fun h => by cases (show (some false : Option Bool) = some true from h)) ⟨fun _ _ => trivial, hK3⟩
      · intro o ho p hp _ z w hB hk K' hK
        cases ho
        have e126 : z 126 = .bool false := hk 126 (by decide +kernel) rfl
        have hK3 := hK undef w (fun s hs => by cases hs; exact rfl) (Below.refl _ _)
        simp only [over_actT10] at hK3 ⊢
        clear hK hk
        unfold actT10 at hK3 ⊢
        simp only [e126] at hK3 ⊢
        refine want_no rfl (fun h => by cases (show (some false : Option Bool) = some true from h)) ⟨fun _ _ => trivial, hK3⟩
      · intro o ho p hp _ z w hB hk K' hK
        cases ho
        have e126 : z 126 = .bool false := hk 126 (by decide +kernel) rfl
        have hK3 := hK undef w (fun s hs => by cases hs; exact rfl) (Below.refl _ _)
        simp only [over_actT10] at hK3 ⊢
        clear hK hk
        unfold actT10 at hK3 ⊢
        simp only [e126] at hK3 ⊢
        refine want_no rfl (fun h => by cases (show (some false : Option Bool) = some true from h)) ⟨fun _ _ => trivial, hK3⟩
      · intro o ho p hp _ z w hB hk K' hK
        cases ho
        have e126 : z 126 = .bool false := hk 126 (by decide +kernel) rfl
        have hK3 := hK undef w (fun s hs => by cases hs; exact rfl) (Below.refl _ _)
        simp only [over_actT10] at hK3 ⊢
        clear hK hk
        unfold actT10 at hK3 ⊢
        simp only [e126] at hK3 ⊢
        refine want_no rfl (fun h => by cases (show (some false : Option Bool) = some true from h)) ⟨fun _ _ => trivial, hK3⟩
      · intro o ho p hp _ z w hB hk K' hK
        cases ho
        have e126 : z 126 = .bool false := hk 126 (by decide +kernel) rfl
        have e138 : z 138 = undef := hk 138 (by decide +kernel) rfl
        have e124 : z 124 = .bool false := hk 124 (by decide +kernel) rfl
        have hK3 := hK (.bool false) w (fun s hs => by cases hs; exact rfl) (Below.refl _ _)
        simp only [over_actT10] at hK3 ⊢
        clear hK hk
        unfold actT10 at hK3 ⊢
        simp only [e126, e138, e124] at hK3 ⊢
        refine want_yes rfl (by rfl) ?_
        go_simp
        exact hK3
      · intro o ho p hp _ z w hB hk K' hK
        cases ho
        have e124 : z 124 = .bool false := hk 124 (by decide +kernel) rfl
        have e139 : z 139 = .bool false := hk 139 (by decide +kernel) rfl
        have hK3 := hK (.bool false) w (fun s hs => by cases hs; exact rfl) (Below.refl _ _)
        simp only [over_actT10] at hK3 ⊢
        clear hK hk
        unfold actT10 at hK3 ⊢
        simp only [e124, e139] at hK3 ⊢
        refine want_plain rfl ?_
        go_simp
        exact hK3
      · intro z w' hB hv
        have e140 : z 140 = .bool false := hv 140 (by decide +kernel)
        rw [over_actT10]
        refine hKs _ _ ?_
        unfold actT10
        simp only [e140]
        have hcur : Cur v8 w' := hcur.then hB
        clear hK10
        go_upto_region 12 with fail
        first
          | (go_region_held_law (fun v => v.cell? ⟨m0, 0, none⟩ = some (.int .i64 bs) ∧ v.cell? ⟨m0, 1, none⟩ = some (.slice qa_37 qn_37 qc_37) ∧ v.cell? ⟨m0, 2, none⟩ = some (.slice qd_37 qm_37 qe_37) ∧ v.cell? ⟨N, 0, none⟩ = some (.int .i64 bs) ∧ v.cell? ⟨N, 1, none⟩ = some (.slice c1 cn c2) ∧ v.cell? ⟨N, 2, none⟩ = some (.slice u1 un u2))
                (first | exact hK12 _ (by first | with_reducible assumption | (with_reducible refine Cur.drew ?_; assumption)))
                (first
                  | (go_at_call 10; refine (k10 _ (by first | with_reducible assumption | (with_reducible refine Cur.drew ?_; assumption))).mono ?_; rintro e V11 ⟨rfl, j11⟩)
                  | (go_at_call 43; refine (rw1 _ (by first | with_reducible assumption | (with_reducible refine Cur.drew ?_; assumption))).mono ?_; rintro e V12 ⟨rfl, j12⟩)
                  | (go_at_call 44; refine (rw2 _ (by first | with_reducible assumption | (with_reducible refine Cur.drew ?_; assumption))).mono ?_; rintro e V13 ⟨rfl, j13⟩)))
          | fail
        go_wp2
        go_ret
        exact ⟨rfl, bl8.trans (Below.mono (by assumption) hz8)⟩
        
    | true =>
      first
        | (go_region_held_law (fun v => v.cell? ⟨m0, 0, none⟩ = some (.int .i64 bs) ∧ v.cell? ⟨m0, 1, none⟩ = some (.slice qa_37 qn_37 qc_37) ∧ v.cell? ⟨m0, 2, none⟩ = some (.slice qd_37 qm_37 qe_37) ∧ v.cell? ⟨m1, 0, none⟩ = some (.slice sa_41 sn_41 sc_41) ∧ v.cell? ⟨m1, 1, none⟩ = some (.int .i64 t.kind) ∧ v.cell? ⟨m1, 2, none⟩ = some (.int .i64 t.idx) ∧ v.cell? ⟨m1, 3, none⟩ = some (.slice sd_41 sm_41 se_41) ∧ v.cell? ⟨N + 1 + 1, 0, none⟩ = some (.slice z1 z2 z3) ∧ v.cell? ⟨N + 1 + 1, 1, none⟩ = some (.int .i64 ty.base) ∧ v.cell? ⟨N, 0, none⟩ = some (.int .i64 bs) ∧ v.cell? ⟨N, 1, none⟩ = some (.slice c1 cn c2) ∧ v.cell? ⟨N, 2, none⟩ = some (.slice u1 un u2) ∧ v.cell? ⟨N + 1, 0, none⟩ = some (.slice x1 x2 x3) ∧ v.cell? ⟨N + 1, 1, none⟩ = some (.int .i64 t.kind) ∧ v.cell? ⟨N + 1, 2, none⟩ = some (.int .i64 t.idx) ∧ v.cell? ⟨N + 1, 3, none⟩ = some (.slice y1 y2 y3) ∧ v.cell? ⟨G, 0, none⟩ = some (.slice i1 i2 i3) ∧ v.cell? ⟨G, 1, none⟩ = some (.int .i64 T2.base))
              (first | exact hK10 _ (by first | with_reducible assumption | (with_reducible refine Cur.drew ?_; assumption)))
              (first
                | (go_at_call 41; have _ := hb6; refine (t2a _ (by first | with_reducible assumption | (with_reducible refine Cur.drew ?_; assumption))).mono ?_; rintro e V8 ⟨ka, kn, kc, rfl, hb7, j8⟩)
                | (go_at_call 41; refine (t1a _ (by first | with_reducible assumption | (with_reducible refine Cur.drew ?_; assumption))).mono ?_; rintro e V5 ⟨la, lna, lc, rfl, hb5, j5⟩)
                | (go_at_call 40; have _ := hb7; refine (ch2 _ (by first | with_reducible assumption | (with_reducible refine Cur.drew ?_; assumption)) _ _ _ (by first | exact hb7 | exact hb7.drew)).mono ?_; rintro e V9 ⟨rfl, j9⟩; have hb8 := trivial)
                | (go_at_call 40; refine (ch1 _ (by first | with_reducible assumption | (with_reducible refine Cur.drew ?_; assumption)) _ _ _ (by first | exact hb5 | exact hb5.drew)).mono ?_; rintro e V6 ⟨rfl, j6⟩)
                | (go_at_call 42; have _ := hb8; refine (rc2 _ (by first | with_reducible assumption | (with_reducible refine Cur.drew ?_; assumption))).mono ?_; rintro e V10 ⟨rfl, j10⟩)
                | (go_at_call 42; refine (rc1 _ (by first | with_reducible assumption | (with_reducible refine Cur.drew ?_; assumption))).mono ?_; rintro e V7 ⟨rfl, j7⟩; have hb6 := trivial)))
        | fail
      clear ch1 ch2 rc1 rc2 t1a t2a hK10
      go_upto_region 12 with fail
      first
        | (go_region_held_law (fun v => v.cell? ⟨m0, 0, none⟩ = some (.int .i64 bs) ∧ v.cell? ⟨m0, 1, none⟩ = some (.slice qa_37 qn_37 qc_37) ∧ v.cell? ⟨m0, 2, none⟩ = some (.slice qd_37 qm_37 qe_37) ∧ v.cell? ⟨N, 0, none⟩ = some (.int .i64 bs) ∧ v.cell? ⟨N, 1, none⟩ = some (.slice c1 cn c2) ∧ v.cell? ⟨N, 2, none⟩ = some (.slice u1 un u2))
              (first | exact hK12 _ (by first | with_reducible assumption | (with_reducible refine Cur.drew ?_; assumption)))
              (first
                | (go_at_call 10; refine (k10 _ (by first | with_reducible assumption | (with_reducible refine Cur.drew ?_; assumption))).mono ?_; rintro e V11 ⟨rfl, j11⟩)
                | (go_at_call 43; refine (rw1 _ (by first | with_reducible assumption | (with_reducible refine Cur.drew ?_; assumption))).mono ?_; rintro e V12 ⟨rfl, j12⟩)
                | (go_at_call 44; refine (rw2 _ (by first | with_reducible assumption | (with_reducible refine Cur.drew ?_; assumption))).mono ?_; rintro e V13 ⟨rfl, j13⟩)))
        | fail
      go_wp2
      go_ret
      exact ⟨rfl, bl8.trans (Below.mono (by assumption) hz8)⟩
      

end Go.Proofs.Ytheokboggjnenaa
