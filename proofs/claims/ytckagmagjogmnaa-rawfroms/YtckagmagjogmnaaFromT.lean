/-
  FromT: several texts in one file: FromP, FromT.
-/
import Derived.Test.YtckagmagjogmnaaMakesA
import Derived.Test.YtckagmagjogmnaaStepX
import Derived.Test.YtckagmagjogmnaaHeadC
import Derived.Test.YtckagmagjogmnaaApply
namespace Go.Proofs.Ytckagmagjogmnaa
open Go Go.RowKit

mutual
/-- a term as a raw one -/
def Tm.raw : Tm → Rw
  | .mk b k i l => lamsR (appsR (hdR k i) (rawT l)) b
def rawT : List Tm → List Rw
  | [] => []
  | t :: r => t.raw :: rawT r
end
theorem Tm.raw_eq (t : Tm) : t.raw = lamsR (appsR (hdR t.kind t.idx) (rawT t.args)) t.binds := by cases t; rfl
theorem rawT_map (l : List Tm) : rawT l = l.map Tm.raw := by
  induction l with
  | nil => rfl
  | cons t l ih => simp [rawT, ih]
theorem rawT_length (l : List Tm) : (rawT l).length = l.length := by rw [rawT_map, List.length_map]
theorem rawT_get {l : List Tm} {k : Nat} {u : Tm} (h : l[k]? = some u) : (rawT l)[k]? = some u.raw := by rw [rawT_map, List.getElem?_map, h]; rfl
theorem raw_total (t : Tm) : t.raw.total + 2 ≤ 4 * t.total := by
  induction t using Tm.ind with
  | h t ih =>
  rw [t.raw_eq, lamsR_total, appsR_total, rawT_length]
  have h1 : (hdR t.kind t.idx).total = 2 := by rw [Rw.total_eq]; rfl
  have h2 : ∀ l : List Tm, (∀ u ∈ l, u.raw.total + 2 ≤ 4 * u.total) → totalR (rawT l) + 2 * l.length ≤ 4 * totalT l := by
    intro l
    induction l with
    | nil => intro _; simp [rawT, totalR]
    | cons u l ih2 => intro h; have h3 := h u (by simp); have h4 := ih2 fun v hv => h v (by simp [hv]); simp only [rawT, totalR, totalT, List.length_cons]; omega
  have h3 := h2 t.args ih
  have h4 := t.total_eq
  have h5 := sizeL_length t.binds
  omega

/-- it has no step -/
def Calm (r : Rw) : Prop := (r.step false).2 = false
theorem stepL_calm (l : List Rw) (h : ∀ u ∈ l, Calm u) : (stepL false l).2 = false := by
  induction l with
  | nil => rfl
  | cons u l ih =>
    have h1 : (u.step false).2 = false := h u (by simp)
    show (stepL (u.step false).2 l).2 = false
    rw [h1]
    exact ih fun v hv => h v (by simp [hv])
theorem calm_of {r : Rw} (h : redexOf r.kind r.kids = none) (hk : ∀ u ∈ r.kids, Calm u) : Calm r := by
  show (r.step false).2 = false
  rw [step_none h]
  exact stepL_calm _ hk
theorem calm_hd (k i : Int) : Calm (hdR k i) := calm_of rfl (fun u hu => by cases hu)
theorem calm_lam {t : Ty} {b : Rw} (h : Calm b) : Calm (lamR t b) := by
  refine calm_of ?_ (fun u hu => by rw [List.mem_singleton.1 hu]; exact h)
  cases hr : redexOf (lamR t b).kind (lamR t b).kids with
  | none => rfl
  | some p =>
    obtain ⟨b9, a9⟩ := p
    obtain ⟨h4, _⟩ := redexOf_some hr
    have h3 : (3 : Int) = 4 := h4
    omega
theorem calm_app {f a : Rw} (hf : Calm f) (ha : Calm a) (hl : f.kids.length ≠ 1) : Calm (appR f a) := by
  refine calm_of ?_ (fun u hu => by
    rcases List.mem_cons.1 hu with rfl | hu
    · exact hf
    · rw [List.mem_singleton.1 hu]; exact ha)
  cases hr : redexOf (appR f a).kind (appR f a).kids with
  | none => rfl
  | some p =>
    obtain ⟨b9, a9⟩ := p
    obtain ⟨_, f', hl', _, hfl⟩ := redexOf_some hr
    have h9 : [f, a] = [f', a9] := hl'
    injection h9 with e1 _
    subst e1
    rw [hfl] at hl
    exact absurd rfl hl
theorem calm_apps (l : List Rw) : ∀ f : Rw, Calm f → f.kids.length ≠ 1 → (∀ a ∈ l, Calm a) → Calm (appsR f l) := by
  induction l with
  | nil => intro f h _ _; exact h
  | cons a l ih =>
    intro f hf hl ha
    exact ih (appR f a) (calm_app hf (ha a (by simp)) hl) (by show (2 : Nat) ≠ 1; decide) (fun b hb => ha b (by simp [hb]))
theorem calm_lams (ts : List Ty) (b : Rw) (h : Calm b) : Calm (lamsR b ts) := by
  induction ts with
  | nil => exact h
  | cons t ts ih => exact calm_lam ih
theorem raw_calm (t : Tm) : Calm t.raw := by
  induction t using Tm.ind with
  | h t ih =>
  rw [t.raw_eq]
  refine calm_lams _ _ (calm_apps _ _ (calm_hd _ _) (by show (0 : Nat) ≠ 1; decide) fun a ha => ?_)
  rw [rawT_map] at ha
  obtain ⟨u, hu, rfl⟩ := List.mem_map.1 ha
  exact ih u hu

/-- it has its type -/
theorem tyU_lams {cs ms : List Ty} (ts : List Ty) : ∀ (ctx : List Ty) (b : Rw) (B : Ty), b.tyU cs ms (ctx ++ ts) = some B → (lamsR b ts).tyU cs ms ctx = some (.mk (ts ++ B.args) B.base) := by
  induction ts with
  | nil =>
    intro ctx b B h
    rw [List.append_nil] at h
    rw [show lamsR b [] = b from rfl, h]
    cases B; rfl
  | cons t ts ih =>
    intro ctx b B h
    have h1 := ih (ctx ++ [t]) b B (by rw [List.append_assoc]; exact h)
    exact tyU_lam (k := 3) (i := 0) (t := t) (u := lamsR b ts) rfl h1
theorem tyU_apps {cs ms ctx : List Ty} (l : List Tm) : ∀ (f : Rw) (az : List Ty) (base : Int), f.tyU cs ms ctx = some (.mk az base) → az.length = l.length → (∀ (i : Nat) t y, l[i]? = some t → az[i]? = some y → t.raw.tyU cs ms ctx = some y) → (appsR f (rawT l)).tyU cs ms ctx = some (.mk [] base) := by
  induction l with
  | nil =>
    intro f az base h hl _
    have : az = [] := List.eq_nil_of_length_eq_zero hl
    subst this
    exact h
  | cons t l ih =>
    intro f az base h hl ha
    cases az with
    | nil => simp at hl
    | cons y ys =>
      have h1 := tyU_app (k := 4) (i := 0) (t := .mk [] 0) (rest := ys) rfl h (ha 0 t y rfl rfl) rfl
      exact ih (appR f t.raw) ys base h1 (by simpa using hl) (fun i u z hu hz => ha (i + 1) u z (by simpa using hu) (by simpa using hz))
theorem isL_get {cs ms ctx : List Ty} {ts : List Tm} {ys : List Ty} (h : isL cs ms ctx ts ys = true) (i : Nat) (t : Tm) (y : Ty) (ht : ts[i]? = some t) (hy : ys[i]? = some y) : t.is cs ms ctx y = true := by
  cases hb : t.is cs ms ctx y with
  | true => rfl
  | false => rw [isL_no i t y ht hy hb] at h; cases h
theorem sameL_eq : ∀ (a b : List Ty), sameL a b = true → a = b := by
  intro a b h
  have h1 : (Ty.mk a 0).same (.mk b 0) = true := by rw [Ty.same_eq]; show ((0 : Int) == 0 && sameL a b) = true; rw [h]; rfl
  have h2 := (Ty.same_iff (.mk a 0) (.mk b 0)).1 h1
  injection h2
theorem is_tyU {cs ms : List Ty} (t : Tm) : ∀ (ctx : List Ty) (ty : Ty), t.is cs ms ctx ty = true → t.raw.tyU cs ms ctx = some ty := by
  induction t using Tm.ind with
  | h t ih =>
  intro ctx ty h
  rw [t.is_eq, Bool.and_eq_true] at h
  obtain ⟨hb, h⟩ := h
  cases hp : pickA cs ms (ctx ++ t.binds) t.kind t.idx with
  | none => rw [hp] at h; cases h
  | some q =>
    rw [hp] at h
    simp only [Bool.and_eq_true, beq_iff_eq] at h
    obtain ⟨h1, h2, h3⟩ := h
    have hk : t.kind ≠ 3 ∧ t.kind ≠ 4 := by
      constructor <;> (intro e; rw [e] at hp; unfold pickA at hp; split at hp <;> cases hp)
    have hhd : (hdR t.kind t.idx).tyU cs ms (ctx ++ t.binds) = some (.mk q.args q.base) := by
      have h9 := tyU_head (cs := cs) (ms := ms) (ctx := ctx ++ t.binds) (k := t.kind) (i := t.idx) (t := .mk [] 0) (l := []) hk.1 hk.2
      exact h9.trans (hp.trans (by cases q; rfl))
    have h4 := tyU_apps (cs := cs) (ms := ms) (ctx := ctx ++ t.binds) t.args _ q.args q.base hhd h2 (fun i u y hu hy => ih u (List.mem_of_getElem? hu) _ y (isL_get h3 i u y hu hy))
    rw [t.raw_eq, tyU_lams t.binds ctx _ _ h4, h1, sameL_eq _ _ hb]
    show some (Ty.mk (ty.args ++ []) ty.base) = some ty
    rw [List.append_nil]
    cases ty; rfl
/-- what is told of it -/
theorem from_infer {bs : Int} {cs ms ctx : List Ty} {t : Tm} {ty : Ty} (h : t.is cs ms ctx ty = true) (hr : t.raw.right = true) : t.raw.infer bs cs ms ctx = (0, ty) ∨ t.raw.infer bs cs ms ctx = (2, zT) := by
  unfold Rw.infer
  rw [if_pos hr]
  exact tyU_inf _ ctx ty (is_tyU t ctx ty h)

end Go.Proofs.Ytckagmagjogmnaa

namespace Go.Proofs.Ytckagmagjogmnaa
open Go Go.RowKit

theorem ttotal_mem {a : List Tm} {t : Tm} (h : t ∈ a) : t.total ≤ totalT a := by
  induction a with
  | nil => cases h
  | cons u a ih =>
    rcases List.mem_cons.1 h with rfl | h
    · simp only [totalT]; omega
    · have := ih h; simp only [totalT]; omega
theorem apps_take {f : Rw} {l : List Tm} {k : Nat} {u : Tm} (h : l[k]? = some u) : appsR f (rawT (l.take (k + 1))) = appR (appsR f (rawT (l.take k))) u.raw := by
  rw [rawT_map, rawT_map, List.take_add_one, h, List.map_append]
  exact appsR_snoc _ _ _
theorem totalT_len (l : List Tm) : l.length ≤ totalT l := by
  induction l with
  | nil => simp [totalT]
  | cons t l ih => have := t.total_eq; simp only [totalT, List.length_cons]; omega
/-- What From's rounds keep. -/
def IFrom (w : World) (N R : Nat) (tc : Array Value) (v : Rw) (W : World) : Prop := ∃ x1 n1 x2 x3 n2 x4, Blk W R 35 #[.int .i64 v.kind, .slice x1 n1 x2, .int .i64 v.ty.base, .int .i64 v.idx, .slice x3 n2 x4] ∧ Holds W (fun b => N + 1 + 1 ≤ b ∧ b ≠ R) v.ty.args (.slice x1 n1 x2) ∧ HoldsR W (fun b => N + 1 + 1 ≤ b ∧ b ≠ R) v.kids (.slice x3 n2 x4) ∧ Blk W (N + 1) 35 #[.int .i64 0, .slice none 0 0, .int .i64 0, .int .i64 0, .slice none 0 0] ∧ Blk W N 76 tc ∧ Below N w W

set_option maxRecDepth 100000 in
set_option maxHeartbeats 3200000 in
theorem From_calls (t : Tm) : ∀ (ok : Nat → Prop) (sb sr : Value) (w : World), Holds w ok t.binds sb → HoldsT w ok t.args sr → t.total ≤ 1000000 →
    Calls Try.prog 34 #[tmv sb t.kind t.idx sr] w (Made [] w t.raw) := by
  induction t using Tm.ind with
  | h t ih =>
  intro ok sb sr w hb hr htot
  have hraw := t.raw_eq
  have hte := t.total_eq
  obtain ⟨x1, x2, hx, _⟩ := hb.shape
  obtain ⟨x3, x4, hx', _⟩ := hr.shape
  obtain ⟨N, hN⟩ : ∃ N, w.heap.size = N := ⟨_, rfl⟩
  have hb' : Holds w (fun b => b < N) t.binds sb := hb.mono fun b h _ => by omega
  have hr' : HoldsT w (fun b => b < N) t.args sr := hr.mono fun b h _ => by omega
  obtain ⟨ts, hts⟩ : ∃ l, t.args = l := ⟨_, rfl⟩
  obtain ⟨bd, hbd⟩ : ∃ l, t.binds = l := ⟨_, rfl⟩
  rw [hts] at hr' ih hraw hte hx'
  rw [hbd] at hb' hraw hte hx
  obtain ⟨n1, hn1⟩ : ∃ n, bd.length = n := ⟨_, rfl⟩
  rw [hn1] at hx
  subst hx hx'
  obtain ⟨kk, hkk⟩ : ∃ k, t.kind = k := ⟨_, rfl⟩
  obtain ⟨ii, hii⟩ : ∃ k, t.idx = k := ⟨_, rfl⟩
  obtain ⟨q, hq⟩ : ∃ q, t.raw = q := ⟨_, rfl⟩
  rw [hq, hkk, hii] at hraw
  rw [hq, hkk, hii]
  have HQ : Hid (q = lamsR (appsR (hdR kk ii) (rawT ts)) bd) := hraw
  have HIH : Hid _ := ih
  have hTL : ts.length ≤ 1000000 := by have := totalT_len ts; omega
  have HTT : Hid (totalT ts ≤ 1000000 ∧ sizeL bd ≤ 1000000) := ⟨by omega, by omega⟩
  obtain ⟨W0, hW0⟩ : ∃ W0, (w.alloc (.cells #[.slice x1 n1 x2, .int .i64 kk, .int .i64 ii, .slice x3 ts.length x4] 76)).alloc (.cells #[.int .i64 0, .slice none 0 0, .int .i64 0, .int .i64 0, .slice none 0 0] 35) = W0 := ⟨_, rfl⟩
  have b0 : Blk W0 N 76 #[.slice x1 n1 x2, .int .i64 kk, .int .i64 ii, .slice x3 ts.length x4] := by rw [← hW0]; exact (Blk.new' w N 76 _ hN).alloc _
  have b1 : Blk W0 (N + 1) 35 #[.int .i64 0, .slice none 0 0, .int .i64 0, .int .i64 0, .slice none 0 0] := by rw [← hW0]; exact Blk.new' _ (N + 1) 35 _ (by simp [hN])
  have bl : Below N w W0 := by rw [← hW0]; exact ((Below.refl N w).alloc (by omega) _).alloc (by simp; omega) _
  have hcall := HeadX_calls kk ii W0
  have c1 := b0.cell 1
  have c2 := b0.cell 2
  have hz : W0.heap.size = N + 1 + 1 := by rw [← hW0]; simp [hN]
  have HW : Hid _ := hW0
  have HN : Hid (w.heap.size = N) := hN
  clear hW0 hb hr hraw ih htot hte hts hbd hn1 hkk hii hq
  go_enter Try.func34, Try.ntmps34
  go_upto_region 1 with fail
  rw [HW.out]
  clear HW
  go_wp2_with fail
  refine hcall.mono ?_
  rintro e w1 ⟨rfl, hb1⟩
  have m0 := b0.below hb1 b0.lt
  have m1 := b1.below hb1 b1.lt
  have B1 : Below N w w1 := bl.trans (hb1.mono (by omega))
  obtain ⟨R, hR⟩ : ∃ R, w1.heap.size = R := ⟨_, rfl⟩
  have hRN : N + 1 + 1 ≤ R := by have := hb1.size; omega
  obtain ⟨W2, hW2⟩ : ∃ W2, w1.alloc (.cells #[.int .i64 kk, .slice none 0 0, .int .i64 0, .int .i64 ii, .slice none 0 0] 35) = W2 := ⟨_, rfl⟩
  have hI0 : IFrom w N R #[.slice x1 n1 x2, .int .i64 kk, .int .i64 ii, .slice x3 ts.length x4] (appsR (hdR kk ii) (rawT (ts.take 0))) W2 := by
    rw [← hW2]
    exact ⟨none, 0, 0, none, 0, 0, Blk.new' w1 R 35 _ hR, Holds.nil _ _ _ _ (fun _ => rfl), HoldsR.nil _ _ _ _ (fun _ => rfl), m1.alloc _, m0.alloc _, B1.alloc (by omega) _⟩
  have HW2 : Hid _ := hW2
  have m0' : Blk W2 N 76 #[.slice x1 n1 x2, .int .i64 kk, .int .i64 ii, .slice x3 ts.length x4] := by rw [← hW2]; exact m0.alloc _
  have g3 := m0'.cell 3
  clear hcall c1 c2 b0 b1 hW2 m0 m1 B1 bl hb1 m0'
  go_upto_region 2 with fail
  rw [HW2.out]
  clear HW2
  go_wp2_with fail
  clear g3
  go_loopw [16] (fun i wr => ∃ k : Nat, k ≤ ts.length ∧ i = .int .i64 k ∧ IFrom w N R #[.slice x1 n1 x2, .int .i64 kk, .int .i64 ii, .slice x3 ts.length x4] (appsR (hdR kk ii) (rawT (ts.take k))) wr) (fun i _ => ts.length - (intOf i).toNat)
  case atStart => exact ⟨0, Nat.zero_le _, rfl, hI0⟩
  case round =>
    clear hI0 hz hR
    obtain ⟨k, hk, rfl, z1, k1, z2, z3, k2, z4, h0, hv, hr, h1, hT, hbl⟩ := hrel
    have hlR := h0.lt
    have hNw : N ≤ wr.heap.size := by omega
    by_cases hlt : k < ts.length
    · obtain ⟨u, hu⟩ : ∃ u, ts[k]? = some u := ⟨_, List.getElem?_eq_getElem hlt⟩
      have htw : HoldsT wr (fun b => b < N) ts (.slice x3 ts.length x4) := hr'.keep fun b _ h => ⟨hbl.block b h, h⟩
      obtain ⟨a9, c9, e9, _, hat⟩ := htw.shape
      cases e9
      obtain ⟨g, o, s, r, rfl, hgN, hg, a0, a1, a2, a3, hs, hsr⟩ := hat k u hu
      obtain ⟨sa, sc, rfl, _⟩ := hs.shape
      obtain ⟨sd, se, rfl, _⟩ := hsr.shape
      obtain ⟨n3, hn3⟩ : ∃ n, u.binds.length = n := ⟨_, rfl⟩
      obtain ⟨n4, hn4⟩ : ∃ n, u.args.length = n := ⟨_, rfl⟩
      rw [hn3] at hs a0
      rw [hn4] at hsr a3
      have hm := List.mem_of_getElem? hu
      have HAP : Hid (appsR (hdR kk ii) (rawT (ts.take (k + 1))) = appR (appsR (hdR kk ii) (rawT (ts.take k))) u.raw) := apps_take hu
      have y1' : (0 : Int) ≤ (k : Int) := by omega
      have y2' : (k : Int) < (ts.length : Int) := by omega
      have hut := ttotal_mem hm
      have hIu := HIH.out u hm
      generalize appsR (hdR kk ii) (rawT (ts.take k)) = v at *
      obtain ⟨X, hX⟩ : ∃ X, wr.heap.size = X := ⟨_, rfl⟩
      obtain ⟨W3, hW3⟩ : ∃ W3, wr.alloc (.cells #[.slice sa n3 sc, .int .i64 u.kind, .int .i64 u.idx, .slice sd n4 se] 76) = W3 := ⟨_, rfl⟩
      have d3 : Blk W3 X 76 #[.slice sa n3 sc, .int .i64 u.kind, .int .i64 u.idx, .slice sd n4 se] := by rw [← hW3]; exact Blk.new' wr X 76 _ hX
      have d0 : Blk W3 R 35 #[.int .i64 v.kind, .slice z1 k1 z2, .int .i64 v.ty.base, .int .i64 v.idx, .slice z3 k2 z4] := by rw [← hW3]; exact h0.alloc _
      have d1 : Blk W3 (N + 1) 35 #[.int .i64 0, .slice none 0 0, .int .i64 0, .int .i64 0, .slice none 0 0] := by rw [← hW3]; exact h1.alloc _
      have dT : Blk W3 N 76 #[.slice x1 n1 x2, .int .i64 kk, .int .i64 ii, .slice (some ⟨g, o, none⟩) ts.length x4] := by rw [← hW3]; exact hT.alloc _
      have hv3 : Holds W3 (fun b => N + 1 + 1 ≤ b ∧ b ≠ R) v.ty.args (.slice z1 k1 z2) := by rw [← hW3]; exact hv.alloc _
      have hr3 : HoldsR W3 (fun b => N + 1 + 1 ≤ b ∧ b ≠ R) v.kids (.slice z3 k2 z4) := by rw [← hW3]; exact hr.alloc _
      have hs3 : Holds W3 (fun b => b < N) u.binds (.slice sa n3 sc) := by rw [← hW3]; exact hs.alloc _
      have hsr3 : HoldsT W3 (fun b => b < N) u.args (.slice sd n4 se) := by rw [← hW3]; exact hsr.alloc _
      have hb3 : Below N w W3 := by rw [← hW3]; exact hbl.alloc hNw _
      have hz3 : W3.heap.size = X + 1 := by rw [← hW3]; simp [hX]
      have HW3 : Hid _ := hW3
      clear hW3 h0 h1 hT hv hr hat hs hsr hbl htw hu hn3 hn4
      go_upto_region 5 with fail
      rw [HW3.out]
      clear HW3 a0 a1 a2 a3
      have p0 := d0.cell 0
      have p1 := d0.cell 1
      have p2 := d0.cell 2
      have p3 := d0.cell 3
      have p4 := d0.cell 4
      have q0 := d3.cell 0
      have q1 := d3.cell 1
      have q2 := d3.cell 2
      have q3 := d3.cell 3
      have hcur := Cur.refl W3
      have hXR : X ≠ R := by omega
      have hXc : Hid (wr.heap.size = X) := hX
      obtain ⟨uq, huq⟩ : ∃ uq, u.raw = uq := ⟨_, rfl⟩
      rw [huq] at hIu HAP
      have k34 : ∀ cur, Cur W3 cur → Calls Try.prog 34 #[tmv (.slice sa n3 sc) u.kind u.idx (.slice sd n4 se)] cur fun e w' => ∃ s1 m1 s2 s3 m2 s4, e = .returned (rwv uq.kind (.slice s1 m1 s2) uq.ty.base uq.idx (.slice s3 m2 s4)) ∧ Holds w' (fun b => W3.heap.size ≤ b) uq.ty.args (.slice s1 m1 s2) ∧ HoldsR w' (fun b => W3.heap.size ≤ b) uq.kids (.slice s3 m2 s4) ∧ Cur W3 w' := fun cur hc => by
        refine (hIu (fun b => b < N) _ _ cur (hc.holds hs3) (hsr3.bel hc) (by have := HTT.out.1; omega)).mono fun e w' ⟨vb, vr, he, h5, h6, h7⟩ => ?_
        obtain ⟨s1, s2, rfl, _⟩ := h5.shape
        obtain ⟨s3, s4, rfl, _⟩ := h6.shape
        have hsz := Below.size hc
        exact ⟨s1, _, s2, s3, _, s4, he, h5.mono fun b _ h => by omega, h6.mono fun b _ h => by omega, hc.then (h7.below (Nat.le_refl _) (by simp))⟩
      have k52 : ∀ cur s1 m1 s2 s3 m2 s4, Cur W3 cur → Holds cur (fun b => W3.heap.size ≤ b) uq.ty.args (.slice s1 m1 s2) → HoldsR cur (fun b => W3.heap.size ≤ b) uq.kids (.slice s3 m2 s4) → Calls Try.prog 52 #[rwv v.kind (.slice z1 k1 z2) v.ty.base v.idx (.slice z3 k2 z4), rwv uq.kind (.slice s1 m1 s2) uq.ty.base uq.idx (.slice s3 m2 s4)] cur fun e w' => ∃ s1 m1 s2 s3 m2 s4, e = .returned (rwv (appR v uq).kind (.slice s1 m1 s2) (appR v uq).ty.base (appR v uq).idx (.slice s3 m2 s4)) ∧ Holds w' (fun b => N + 1 + 1 ≤ b ∧ b ≠ R) (appR v uq).ty.args (.slice s1 m1 s2) ∧ HoldsR w' (fun b => N + 1 + 1 ≤ b ∧ b ≠ R) (appR v uq).kids (.slice s3 m2 s4) ∧ Cur W3 w' := fun cur s1 m1 s2 s3 m2 s4 hc h5 h6 => by
        have hsz := Below.size hc
        refine (apply_calls v uq (fun b => N + 1 + 1 ≤ b ∧ b ≠ R) _ _ _ _ cur (fun b h => ⟨by omega, by omega⟩) (hc.holds hv3) (hc.holdsR hr3) (h5.mono fun b _ h => ⟨by omega, by omega⟩) (h6.mono fun b _ h => ⟨by omega, by omega⟩)).mono fun e w' ⟨vb, vr, he, h7, h8, h9⟩ => ?_
        obtain ⟨s1, s2, rfl, _⟩ := h7.shape
        obtain ⟨s3, s4, rfl, _⟩ := h8.shape
        exact ⟨s1, _, s2, s3, _, s4, he, h7, h8, hc.then (h9.below (Nat.le_refl _) (by simp))⟩
      have hN3 : N ≤ W3.heap.size := by omega
      have hRX : R < X := by omega
      clear hX hIu
      generalize appR v uq = v5 at *
      go_region_with (first
          | (go_at_call 52; refine (k52 _ _ _ _ _ _ _ (by first | with_reducible assumption | (with_reducible refine Cur.drew ?_; assumption)) hv7 hr7).mono ?_; rintro e y9 ⟨r1, e1, r2, r3, e2, r4, rfl, hv9, hr9, hc9⟩; have m9 := d0.below (show Below W3.heap.size W3 y9 from hc9) d0.lt; have g0 := m9.cell 0; have g1 := m9.cell 1; have g2 := m9.cell 2; have g3 := m9.cell 3; have g4 := m9.cell 4; have f0 := m9.frozen 0; have f1 := m9.frozen 1; have f2 := m9.frozen 2; have f3 := m9.frozen 3; have f4 := m9.frozen 4)
          | (go_at_call 34; refine (k34 _ (by first | with_reducible assumption | (with_reducible refine Cur.drew ?_; assumption))).mono ?_; rintro e y7 ⟨s1, j1, s2, s3, j2, s4, rfl, hv7, hr7, hc7⟩; have t0 := hc7.cell p0; have t1 := hc7.cell p1; have t2 := hc7.cell p2; have t3 := hc7.cell p3; have t4 := hc7.cell p4))
      all_goals
        have w9 : Below W3.heap.size W3 y9 := hc9
        have h5 := holds_set5 (g := R) (ok' := fun b => N + 1 + 1 ≤ b ∧ b ≠ R) hv9 (fun b _ h => ⟨h.2, h⟩) (.int .i64 v5.kind) (.slice r1 e1 r2) (.int .i64 v5.ty.base) (.int .i64 v5.idx) (.slice r3 e2 r4)
        have h6 := holdsR_set5 (g := R) (ok' := fun b => N + 1 + 1 ≤ b ∧ b ≠ R) hr9 (fun b _ h => ⟨h.2, h⟩) (.int .i64 v5.kind) (.slice r1 e1 r2) (.int .i64 v5.ty.base) (.int .i64 v5.idx) (.slice r3 e2 r4)
        have b5 := (((((m9.set 0 (.int .i64 v5.kind)).set 1 (.slice r1 e1 r2)).set 2 (.int .i64 v5.ty.base)).set 3 (.int .i64 v5.idx)).set 4 (.slice r3 e2 r4))
        have b6 := ((((((d1.below w9 d1.lt).other (B' := R) (by omega) 0 (.int .i64 v5.kind)).other (B' := R) (by omega) 1 (.slice r1 e1 r2)).other (B' := R) (by omega) 2 (.int .i64 v5.ty.base)).other (B' := R) (by omega) 3 (.int .i64 v5.idx)).other (B' := R) (by omega) 4 (.slice r3 e2 r4))
        have bT := ((((((dT.below w9 dT.lt).other (B' := R) (by omega) 0 (.int .i64 v5.kind)).other (B' := R) (by omega) 1 (.slice r1 e1 r2)).other (B' := R) (by omega) 2 (.int .i64 v5.ty.base)).other (B' := R) (by omega) 3 (.int .i64 v5.idx)).other (B' := R) (by omega) 4 (.slice r3 e2 r4))
        have B5 : Below N w (((((y9.setCell ⟨R, 0, none⟩ (.int .i64 v5.kind)).setCell ⟨R, 1, none⟩ (.slice r1 e1 r2)).setCell ⟨R, 2, none⟩ (.int .i64 v5.ty.base)).setCell ⟨R, 3, none⟩ (.int .i64 v5.idx)).setCell ⟨R, 4, none⟩ (.slice r3 e2 r4)) := (bset (bset (bset (bset (bset (hb3.trans (w9.mono (by omega))) (by omega) (i := 0) (.int .i64 v5.kind)) (by omega) (i := 1) (.slice r1 e1 r2)) (by omega) (i := 2) (.int .i64 v5.ty.base)) (by omega) (i := 3) (.int .i64 v5.idx)) (by omega) (i := 4) (.slice r3 e2 r4))
        clear hv7 hr7 hv9 hr9 g0 g1 g2 g3 g4 f0 f1 f2 f3 f4 m9 hc9 w9
        generalize (((((y9.setCell ⟨R, 0, none⟩ (.int .i64 v5.kind)).setCell ⟨R, 1, none⟩ (.slice r1 e1 r2)).setCell ⟨R, 2, none⟩ (.int .i64 v5.ty.base)).setCell ⟨R, 3, none⟩ (.int .i64 v5.idx)).setCell ⟨R, 4, none⟩ (.slice r3 e2 r4)) = W5 at *
        go_wp2
        go_roundw
        case rel => exact ⟨k + 1, by omega, by go_num, by rw [HAP.out]; exact ⟨r1, e1, r2, r3, e2, r4, b5, h5, h6, b6, bT, B5⟩⟩
        case measure => simp [intOf]; omega
    · obtain rfl : k = ts.length := by omega
      rw [List.take_length] at h0 hv hr
      obtain ⟨v, hv'⟩ : ∃ v, appsR (hdR kk ii) (rawT ts) = v := ⟨_, rfl⟩
      rw [hv'] at h0 hv hr
      have HQ2 : Hid (q = lamsR v bd) := by show _ = _; rw [← hv']; exact HQ.out
      have p0 := h0.cell 0
      have p1 := h0.cell 1
      have p2 := h0.cell 2
      have p3 := h0.cell 3
      have p4 := h0.cell 4
      have pT := hT.cell 0
      have hO2 : Only [] w wr := Only.of_below' (by rw [HN.out]; exact hbl)
      have hg9 : w.heap.size ≤ N + 1 := by rw [HN.out]; omega
      have hl1 := h1.lt
      have kb := bind_calls v bd (N + 1 + 1) (fun b => b < N) (.slice z1 k1 z2) (.slice z3 k2 z4) (.slice x1 n1 x2) wr (by omega) (hv.mono fun b _ h => h.1) (hr.mono fun b _ h => h.1) (hb'.keep fun b _ h => ⟨hbl.block b h, h⟩) HTT.out.2
      rw [← HQ2.out] at kb
      clear hv' hv hr h0 hT
      go_wp2_with fail
      refine kb.mono ?_
      rintro e w7 ⟨vb, vr, rfl, hvb, hvr, hO7⟩
      obtain ⟨c1', c3', rfl, _⟩ := hvb.shape
      obtain ⟨d1', d3', rfl, _⟩ := hvr.shape
      have m1 := h1.only hO7 (by simp)
      have hO3 : Only [] w w7 := hO2.trans hO7
      generalize q.ty.args.length = c2' at *
      generalize q.kids.length = d2' at *
      clear kb p0 p1 p2 p3 p4 pT
      have e0 := m1.cell 0
      have e1 := m1.cell 1
      have e2 := m1.cell 2
      have e3 := m1.cell 3
      have e4 := m1.cell 4
      have f0 := m1.frozen 0
      have f1 := m1.frozen 1
      have f2 := m1.frozen 2
      have f3 := m1.frozen 3
      have f4 := m1.frozen 4
      have h5 := holds_set5 (g := N + 1) (ok' := fun b => w.heap.size ≤ b) hvb (fun b _ h => ⟨by omega, by rw [HN.out]; omega⟩) (.int .i64 q.kind) (.slice c1' c2' c3') (.int .i64 q.ty.base) (.int .i64 q.idx) (.slice d1' d2' d3')
      have h6 := holdsR_set5 (g := N + 1) (ok' := fun b => w.heap.size ≤ b) hvr (fun b _ h => ⟨by omega, by rw [HN.out]; omega⟩) (.int .i64 q.kind) (.slice c1' c2' c3') (.int .i64 q.ty.base) (.int .i64 q.idx) (.slice d1' d2' d3')
      have b5 := (((((m1.set 0 (.int .i64 q.kind)).set 1 (.slice c1' c2' c3')).set 2 (.int .i64 q.ty.base)).set 3 (.int .i64 q.idx)).set 4 (.slice d1' d2' d3'))
      have hO5 := (((((hO3.setNew hg9 0 (.int .i64 q.kind)).setNew hg9 1 (.slice c1' c2' c3')).setNew hg9 2 (.int .i64 q.ty.base)).setNew hg9 3 (.int .i64 q.idx)).setNew hg9 4 (.slice d1' d2' d3'))
      go_wp2
      generalize (((((w7.setCell ⟨N + 1, 0, none⟩ (.int .i64 q.kind)).setCell ⟨N + 1, 1, none⟩ (.slice c1' c2' c3')).setCell ⟨N + 1, 2, none⟩ (.int .i64 q.ty.base)).setCell ⟨N + 1, 3, none⟩ (.int .i64 q.idx)).setCell ⟨N + 1, 4, none⟩ (.slice d1' d2' d3')) = W5 at *
      have g0 : W5.cell? ⟨N + 1, 0, none⟩ = some (.int .i64 q.kind) := b5.cell 0
      have g1 : W5.cell? ⟨N + 1, 1, none⟩ = some (.slice c1' c2' c3') := b5.cell 1
      have g2 : W5.cell? ⟨N + 1, 2, none⟩ = some (.int .i64 q.ty.base) := b5.cell 2
      have g3 : W5.cell? ⟨N + 1, 3, none⟩ = some (.int .i64 q.idx) := b5.cell 3
      have g4 : W5.cell? ⟨N + 1, 4, none⟩ = some (.slice d1' d2' d3') := b5.cell 4
      exact bodyPost_ret (v := rwv q.kind (.slice c1' c2' c3') q.ty.base q.idx (.slice d1' d2' d3')) (by simp [results, Try.results34, go_sem, g0, g1, g2, g3, g4]) rfl ⟨_, _, rfl, h5, h6, hO5⟩

end Go.Proofs.Ytckagmagjogmnaa

