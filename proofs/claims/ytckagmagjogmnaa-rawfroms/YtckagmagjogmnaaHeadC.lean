/-
  HeadC: several texts in one file.
-/
import Derived.Test.YtckagmagjogmnaaTm
import Derived.Test.YtckagmagjogmnaaMk
import Derived.Test.YtckagmagjogmnaaHeadsS
import Derived.Test.YtckagmagjogmnaaConcat
import Derived.Test.YtckagmagjogmnaaTo
import Derived.Test.YtckagmagjogmnaaFresh
/-
  What the document says of heads' types, of terms' types, and of which terms are of a type: plain.
-/
namespace Go.Proofs.Ytckagmagjogmnaa
open Go

/-- What a head stands for: a bound one is counted from the end of the context. -/
def pickA {α : Type} (cs ms ctx : List α) (k i : Int) : Option α :=
  if i < 0 then none
  else if k = 0 then (if i.toNat < ctx.length then ctx[ctx.length - 1 - i.toNat]? else none)
  else if k = 1 then cs[i.toNat]?
  else if k = 2 then ms[i.toNat]?
  else none
theorem pickA_map {α β : Type} (f : α → β) (cs ms ctx : List α) (k i : Int) : pickA (cs.map f) (ms.map f) (ctx.map f) k i = (pickA cs ms ctx k i).map f := by
  unfold pickA
  split
  · rfl
  · split
    · simp only [List.length_map]
      split
      · rw [List.getElem?_map]
      · rfl
    · split
      · rw [List.getElem?_map]
      · split
        · rw [List.getElem?_map]
        · rfl
theorem pickA_mem {α : Type} {cs ms ctx : List α} {k i : Int} {p : α} (h : pickA cs ms ctx k i = some p) : p ∈ cs ∨ p ∈ ms ∨ p ∈ ctx := by
  unfold pickA at h
  split at h
  · cases h
  · split at h
    · split at h
      · exact .inr (.inr (List.mem_of_getElem? h))
      · cases h
    · split at h
      · exact .inl (List.mem_of_getElem? h)
      · split at h
        · exact .inr (.inl (List.mem_of_getElem? h))
        · cases h

mutual
/-- Is a term of a type, in a context? -/
def Tm.is (cs ms : List Ty) : List Ty → Tm → Ty → Bool
  | ctx, .mk b k i l, ty => sameL b ty.args && match pickA cs ms (ctx ++ b) k i with
    | none => false
    | some h => h.base == ty.base && (h.args.length == l.length && isL cs ms (ctx ++ b) l h.args)
def isL (cs ms : List Ty) : List Ty → List Tm → List Ty → Bool
  | ctx, t :: r, y :: ys => t.is cs ms ctx y && isL cs ms ctx r ys
  | _, _, _ => true
end
theorem Tm.is_eq (cs ms ctx : List Ty) (t : Tm) (ty : Ty) : t.is cs ms ctx ty = (sameL t.binds ty.args && match pickA cs ms (ctx ++ t.binds) t.kind t.idx with
    | none => false
    | some h => h.base == ty.base && (h.args.length == t.args.length && isL cs ms (ctx ++ t.binds) t.args h.args)) := by cases t; rfl
theorem isL_cons (cs ms ctx : List Ty) (t : Tm) (r : List Tm) (y : Ty) (ys : List Ty) : isL cs ms ctx (t :: r) (y :: ys) = (t.is cs ms ctx y && isL cs ms ctx r ys) := rfl

def IsUp (cs ms ctx : List Ty) (ts : List Tm) (ys : List Ty) (k : Nat) : Prop := ∀ i t y, i < k → ts[i]? = some t → ys[i]? = some y → t.is cs ms ctx y = true
theorem IsUp.step {cs ms ctx : List Ty} {ts : List Tm} {ys : List Ty} {k : Nat} {t : Tm} {y : Ty} (h : IsUp cs ms ctx ts ys k) (ht : ts[k]? = some t) (hy : ys[k]? = some y) (hp : t.is cs ms ctx y = true) : IsUp cs ms ctx ts ys (k + 1) := by
  intro i a b hi ha hb
  rcases Nat.lt_or_ge i k with hl | hl
  · exact h i a b hl ha hb
  · obtain rfl : i = k := by omega
    rw [ht] at ha; rw [hy] at hb; cases ha; cases hb; exact hp
theorem isL_of_up {cs ms ctx : List Ty} {ts : List Tm} {ys : List Ty} (h : ∀ (i : Nat) t y, ts[i]? = some t → ys[i]? = some y → t.is cs ms ctx y = true) : isL cs ms ctx ts ys = true := by
  induction ts generalizing ys with
  | nil => cases ys <;> rfl
  | cons t ts ih => cases ys with
    | nil => rfl
    | cons y ys =>
      rw [isL_cons, h 0 t y rfl rfl, ih (fun i a b ha hb => h (i + 1) a b (by simpa using ha) (by simpa using hb))]
      rfl
theorem isL_no {cs ms ctx : List Ty} {ts : List Tm} {ys : List Ty} (i : Nat) (t : Tm) (y : Ty) (ht : ts[i]? = some t) (hy : ys[i]? = some y) (h : t.is cs ms ctx y = false) : isL cs ms ctx ts ys = false := by
  induction ts generalizing ys i with
  | nil => simp at ht
  | cons a ts ih => cases ys with
    | nil => simp at hy
    | cons b ys =>
      cases i with
      | zero => simp at ht hy; subst ht; subst hy; rw [isL_cons, h]; rfl
      | succ i => rw [isL_cons, ih i (by simpa using ht) (by simpa using hy), Bool.and_false]

/-- The type of a term, by its binders and its head. -/
def Tm.typeOf (cs ms ctx : List Ty) (t : Tm) : Option Ty := (pickA cs ms (ctx ++ t.binds) t.kind t.idx).map fun h => .mk t.binds h.base

end Go.Proofs.Ytckagmagjogmnaa

/-
  The contract of term.find: a head's type, as it stands in a world or a context.
-/
namespace Go.Proofs.Ytckagmagjogmnaa
open Go Go.RowKit

/-- The slice v shows these values of types, wherever they lie. -/
def Lk (w : World) (ps : List (Value × Ty)) (v : Value) : Prop := ∃ a cap, v = .slice a ps.length cap ∧
    ∀ i p, ps[i]? = some p → ∃ g o, a = some ⟨g, o, none⟩ ∧ w.cell? ⟨g, o + i * 2, none⟩ = some p.1 ∧ w.cell? ⟨g, o + i * 2 + 1, none⟩ = some (.int .i64 p.2.base)
theorem Lk.bel {w w' : World} {ps : List (Value × Ty)} {v : Value} (h : Lk w ps v) (hb : Below w.heap.size w w') : Lk w' ps v := by
  obtain ⟨a, cap, rfl, h⟩ := h
  refine ⟨a, cap, rfl, fun i p hp => ?_⟩
  obtain ⟨g, o, e, c0, c1⟩ := h i p hp
  exact ⟨g, o, e, (hb.cell (p := ⟨g, _, none⟩) (lt_of_cell c0)).trans c0, (hb.cell (p := ⟨g, _, none⟩) (lt_of_cell c1)).trans c1⟩
theorem Holds.lk {w : World} {ok : Nat → Prop} {ts : List Ty} {v : Value} (h : Holds w ok ts v) : ∃ ps : List (Value × Ty), Lk w ps v ∧ ps.map (·.2) = ts ∧ ∀ p ∈ ps, Holds w ok p.2.args p.1 := by
  cases h with
  | mk ts a cap f hcap hnil hc hr =>
    have hget : ∀ i p, (ts.mapIdx (fun i t => (f i, t)))[i]? = some p → ts[i]? = some p.2 ∧ p.1 = f i := by
      intro i p hp
      rw [List.getElem?_mapIdx] at hp
      obtain ⟨t, ht, rfl⟩ := Option.map_eq_some_iff.1 hp
      exact ⟨ht, rfl⟩
    refine ⟨ts.mapIdx (fun i t => (f i, t)), ⟨a, cap, by simp, fun i p hp => ?_⟩, ?_, fun p hp => ?_⟩
    · obtain ⟨ht, hf⟩ := hget i p hp
      obtain ⟨g, o, e, _, c0, c1⟩ := hc i p.2 ht
      exact ⟨g, o, e, by rw [hf]; exact c0, c1⟩
    · apply List.ext_getElem?
      intro i
      rw [List.getElem?_map, List.getElem?_mapIdx]
      cases ts[i]? <;> rfl
    · obtain ⟨i, hi⟩ := List.getElem?_of_mem hp
      obtain ⟨ht, hf⟩ := hget i p hi
      rw [hf]; exact hr i p.2 ht
theorem lk_row {w : World} {N : Nat} {e : TypeId} {v : Value} {ps : List (Value × Ty)} (h : w.ownsRow N e 2 v ps.length (pcells ps)) : Lk w ps v := by
  obtain ⟨h1, h2⟩ := id h
  rcases h2 with ⟨rfl, h2⟩ | ⟨g, cap, cur, rfl, e2, e3, e4, e5, e6⟩
  · have : ps = [] := List.eq_nil_of_length_eq_zero h2
    subst this
    exact ⟨none, 0, rfl, fun i p hp => by simp at hp⟩
  · have hc := World.ownsRow.cellAt h
    refine ⟨some ⟨g, 0, none⟩, cap, rfl, fun i p hp => ⟨g, 0, rfl, ?_⟩⟩
    obtain ⟨c0, c1⟩ := pcells_get ps i p hp
    have hil := (List.getElem?_eq_some_iff.1 hp).1
    exact ⟨by rw [Nat.zero_add, hc _ (by omega), c0], by rw [Nat.zero_add, hc _ (by omega), c1]⟩

/-- A world, as a value. -/
abbrev wov (b : Int) (c m : Value) : Value := .agg #[.int .i64 b, c, m]
/-- What is found, as a value. -/
def fv : Option (Value × Ty) → Value
  | none => tv (.slice none 0 0) 0
  | some p => tv p.1 p.2.base


theorem Lk.isSlice {w : World} {ps : List (Value × Ty)} {v : Value} (h : Lk w ps v) : ∃ a n c, v = .slice a n c := by
  obtain ⟨a, cap, rfl, _⟩ := h
  exact ⟨_, _, _, rfl⟩

set_option maxRecDepth 100000 in
set_option maxHeartbeats 1600000 in
theorem find_b (bs i : Int) (px : List (Value × Ty)) (cv mv : Value) (xx : Value) (w : World) (hx : Lk w px xx) (hsl : ∀ p ∈ px, ∃ a n c, p.1 = .slice a n c) (hot : (∃ a n c, cv = .slice a n c) ∧ ∃ a n c, mv = .slice a n c) (hln : px.length ≤ 1000000) (hi : i ≤ 9223372036854775807) :
    Calls Try.prog 59 #[wov bs cv mv, xx, hv 0 i] w fun e w' => e = .returned (.tuple #[fv (if i < 0 then none else if i.toNat < px.length then px[px.length - 1 - i.toNat]? else none), .bool (if i < 0 then none else if i.toNat < px.length then px[px.length - 1 - i.toNat]? else none).isSome]) ∧ Below w.heap.size w w' := by
  obtain ⟨a, cap, rfl, hat⟩ := hx
  obtain ⟨⟨oa, on, oc, rfl⟩, pa, pn, pc, rfl⟩ := hot
  have HA : Hid _ := hat
  clear hat
  obtain ⟨N, hN⟩ : ∃ N, w.heap.size = N := ⟨_, rfl⟩
  rw [hN]
  obtain ⟨r, hr⟩ : ∃ r, (if i < 0 then none else if i.toNat < px.length then px[px.length - 1 - i.toNat]? else none) = r := ⟨_, rfl⟩
  have HP : Hid _ := hr
  rw [hr]
  clear hr
  obtain ⟨n, hn⟩ : ∃ n, px.length = n := ⟨_, rfl⟩
  have HN : Hid (px.length = n) := hn
  rw [hn] at hln ⊢
  clear hn
  obtain ⟨W0, hW0⟩ : ∃ W0, ((w.alloc (.cells #[.int .i64 bs, .slice oa on oc, .slice pa pn pc] 57)).alloc (.cells #[.int .i64 0, .int .i64 i] 73)).alloc (.cells #[.slice none 0 0, .int .i64 0] 32) = W0 := ⟨_, rfl⟩
  have b2 : Blk W0 (N + 1 + 1) 32 #[.slice none 0 0, .int .i64 0] := by rw [← hW0]; exact Blk.new' _ (N + 1 + 1) 32 _ (by simp [hN])
  have bl0 : Below N w W0 := by rw [← hW0]; exact (((Below.refl N w).alloc (by omega) _).alloc (by simp; omega) _).alloc (by simp; omega) _
  have HW : Hid _ := hW0
  have d0 := b2.cell 0
  have d1 := b2.cell 1
  have g0 := b2.frozen 0
  have g1 := b2.frozen 1
  by_cases h0 : i < 0
  · have y1 : decide (i < 0) = true := by simp [h0]
    have HR : Hid (r = none) := by show _ = _; rw [← HP.out, if_pos h0]
    clear hW0
    go_enter Try.func59, Try.ntmps59
    go_wp2
    rw [HW.out]
    exact bodyPost_ret (v := .tuple #[tv (.slice none 0 0) 0, .bool false]) (by simp [results, Try.results59, go_sem, d0, d1]) rfl ⟨by rw [HR.out]; rfl, bl0⟩
  · have y1 : decide (i < 0) = false := by simp; omega
    obtain ⟨j, rfl⟩ : ∃ j : Nat, i = (j : Int) := ⟨i.toNat, by omega⟩
    by_cases hl : j < n
    · have y2 : decide ((j : Int) < (n : Int)) = true := by simp; omega
      have y3 : decide ((j : Int) ≥ (n : Int)) = false := by simp; omega
      have y4 : decide ((n : Int) ≤ (j : Int)) = false := by simp; omega
      have v1 : (0 : Int) ≤ (j : Int) := by omega
      have v2 : (j : Int) < (n : Int) := by omega
      obtain ⟨m, hm⟩ : ∃ m : Nat, (n : Int) - 1 - (j : Int) = (m : Int) := ⟨n - 1 - j, by omega⟩
      have hmn : m = n - 1 - j := by omega
      have v3 : (0 : Int) ≤ (m : Int) := by omega
      have v4 : (m : Int) < (n : Int) := by omega
      obtain ⟨p, hp⟩ : ∃ p, px[m]? = some p := ⟨_, List.getElem?_eq_getElem (by rw [HN.out]; omega)⟩
      have HR : Hid (r = some p) := by show _ = _; rw [← HP.out]; rw [if_neg h0, if_pos (by rw [HN.out]; exact hl), HN.out, Int.toNat_natCast, ← hmn]; exact hp
      obtain ⟨g, o, rfl, q0, q1⟩ := HA.out m p hp
      have HV : Hid (∃ a n c, p.1 = .slice a n c) := hsl p (List.mem_of_getElem? hp)
      obtain ⟨va, vn, vc, hv⟩ := HV.out
      have hgl : g < w.heap.size := lt_of_cell q0
      have q2 := fun w' (hb : Below N w w') => (hb.cell (p := ⟨g, _, none⟩) (by rw [← hN]; exact hgl)).trans q0
      have q3 := fun w' (hb : Below N w w') => (hb.cell (p := ⟨g, _, none⟩) (by rw [← hN]; exact hgl)).trans q1
      clear q0 q1
      have q0 := q2 W0 bl0
      have q1 := q3 W0 bl0
      rw [hv] at q0
      rw [← hW0] at q0 q1
      obtain ⟨W5, hW5⟩ : ∃ W5, ((w.alloc (.cells #[.int .i64 bs, .slice oa on oc, .slice pa pn pc] 57)).alloc (.cells #[.int .i64 0, .int .i64 (j : Int)] 73)).alloc (.cells #[.slice va vn vc, .int .i64 p.2.base] 32) = W5 := ⟨_, rfl⟩
      have b9 : Blk W5 (N + 1 + 1) 32 #[.slice va vn vc, .int .i64 p.2.base] := by rw [← hW5]; exact Blk.new' _ (N + 1 + 1) 32 _ (by simp [hN])
      have hB3 : Below N w W5 := by rw [← hW5]; exact (((Below.refl N w).alloc (by omega) _).alloc (by simp; omega) _).alloc (by simp; omega) _
      have HW5 : Hid _ := hW5
      clear hW5
      clear hW0 q2 q3 hp d0 d1 g0 g1 b2 HW hmn
      go_enter Try.func59, Try.ntmps59
      go_wp2
      rw [HW5.out]
      have d0 : W5.cell? ⟨N + 1 + 1, 0, none⟩ = some (.slice va vn vc) := b9.cell 0
      have d1 : W5.cell? ⟨N + 1 + 1, 1, none⟩ = some (.int .i64 p.2.base) := b9.cell 1
      exact bodyPost_ret (v := .tuple #[tv (.slice va vn vc) p.2.base, .bool true]) (by simp [results, Try.results59, go_sem, d0, d1]) rfl ⟨by rw [HR.out]; simp only [fv, hv, Option.isSome_some], hB3⟩
    · have y2 : decide ((j : Int) < (n : Int)) = false := by simp; omega
      have y3 : decide ((j : Int) ≥ (n : Int)) = true := by simp; omega
      have y4 : decide ((n : Int) ≤ (j : Int)) = true := by simp; omega
      have HR : Hid (r = none) := by show _ = _; rw [← HP.out]; rw [if_neg h0, if_neg (by rw [HN.out]; exact hl)]
      clear hW0
      go_enter Try.func59, Try.ntmps59
      go_wp2
      rw [HW.out]
      exact bodyPost_ret (v := .tuple #[tv (.slice none 0 0) 0, .bool false]) (by simp [results, Try.results59, go_sem, d0, d1]) rfl ⟨by rw [HR.out]; rfl, bl0⟩

set_option maxRecDepth 100000 in
set_option maxHeartbeats 1600000 in
theorem find_c (bs i : Int) (px : List (Value × Ty)) (mv xv : Value) (xx : Value) (w : World) (hx : Lk w px xx) (hsl : ∀ p ∈ px, ∃ a n c, p.1 = .slice a n c) (hot : (∃ a n c, mv = .slice a n c) ∧ ∃ a n c, xv = .slice a n c) (hi : i ≤ 9223372036854775807) :
    Calls Try.prog 59 #[wov bs xx mv, xv, hv 1 i] w fun e w' => e = .returned (.tuple #[fv (if i < 0 then none else px[i.toNat]?), .bool (if i < 0 then none else px[i.toNat]?).isSome]) ∧ Below w.heap.size w w' := by
  obtain ⟨a, cap, rfl, hat⟩ := hx
  obtain ⟨⟨oa, on, oc, rfl⟩, pa, pn, pc, rfl⟩ := hot
  have HA : Hid _ := hat
  clear hat
  obtain ⟨N, hN⟩ : ∃ N, w.heap.size = N := ⟨_, rfl⟩
  rw [hN]
  obtain ⟨r, hr⟩ : ∃ r, (if i < 0 then none else px[i.toNat]?) = r := ⟨_, rfl⟩
  have HP : Hid _ := hr
  rw [hr]
  clear hr
  obtain ⟨n, hn⟩ : ∃ n, px.length = n := ⟨_, rfl⟩
  have HN : Hid (px.length = n) := hn
  rw [hn]
  clear hn
  obtain ⟨W0, hW0⟩ : ∃ W0, ((w.alloc (.cells #[.int .i64 bs, .slice a n cap, .slice oa on oc] 57)).alloc (.cells #[.int .i64 1, .int .i64 i] 73)).alloc (.cells #[.slice none 0 0, .int .i64 0] 32) = W0 := ⟨_, rfl⟩
  have b2 : Blk W0 (N + 1 + 1) 32 #[.slice none 0 0, .int .i64 0] := by rw [← hW0]; exact Blk.new' _ (N + 1 + 1) 32 _ (by simp [hN])
  have bl0 : Below N w W0 := by rw [← hW0]; exact (((Below.refl N w).alloc (by omega) _).alloc (by simp; omega) _).alloc (by simp; omega) _
  have HW : Hid _ := hW0
  have d0 := b2.cell 0
  have d1 := b2.cell 1
  have g0 := b2.frozen 0
  have g1 := b2.frozen 1
  by_cases h0 : i < 0
  · have y1 : decide (i < 0) = true := by simp [h0]
    have HR : Hid (r = none) := by show _ = _; rw [← HP.out, if_pos h0]
    clear hW0
    go_enter Try.func59, Try.ntmps59
    go_wp2
    rw [HW.out]
    exact bodyPost_ret (v := .tuple #[tv (.slice none 0 0) 0, .bool false]) (by simp [results, Try.results59, go_sem, d0, d1]) rfl ⟨by rw [HR.out]; rfl, bl0⟩
  · have y1 : decide (i < 0) = false := by simp; omega
    obtain ⟨j, rfl⟩ : ∃ j : Nat, i = (j : Int) := ⟨i.toNat, by omega⟩
    by_cases hl : j < n
    · have y2 : decide ((j : Int) < (n : Int)) = true := by simp; omega
      have y3 : decide ((j : Int) ≥ (n : Int)) = false := by simp; omega
      have y4 : decide ((n : Int) ≤ (j : Int)) = false := by simp; omega
      have v1 : (0 : Int) ≤ (j : Int) := by omega
      have v2 : (j : Int) < (n : Int) := by omega
      obtain ⟨p, hp⟩ : ∃ p, px[j]? = some p := ⟨_, List.getElem?_eq_getElem (by rw [HN.out]; omega)⟩
      have HR : Hid (r = some p) := by show _ = _; rw [← HP.out]; rw [if_neg h0, Int.toNat_natCast]; exact hp
      obtain ⟨g, o, rfl, q0, q1⟩ := HA.out j p hp
      have HV : Hid (∃ a n c, p.1 = .slice a n c) := hsl p (List.mem_of_getElem? hp)
      obtain ⟨va, vn, vc, hv⟩ := HV.out
      have hgl : g < w.heap.size := lt_of_cell q0
      have q2 := fun w' (hb : Below N w w') => (hb.cell (p := ⟨g, _, none⟩) (by rw [← hN]; exact hgl)).trans q0
      have q3 := fun w' (hb : Below N w w') => (hb.cell (p := ⟨g, _, none⟩) (by rw [← hN]; exact hgl)).trans q1
      clear q0 q1
      have q0 := q2 W0 bl0
      have q1 := q3 W0 bl0
      rw [hv] at q0
      rw [← hW0] at q0 q1
      obtain ⟨W5, hW5⟩ : ∃ W5, ((w.alloc (.cells #[.int .i64 bs, .slice (some ⟨g, o, none⟩) n cap, .slice oa on oc] 57)).alloc (.cells #[.int .i64 1, .int .i64 (j : Int)] 73)).alloc (.cells #[.slice va vn vc, .int .i64 p.2.base] 32) = W5 := ⟨_, rfl⟩
      have b9 : Blk W5 (N + 1 + 1) 32 #[.slice va vn vc, .int .i64 p.2.base] := by rw [← hW5]; exact Blk.new' _ (N + 1 + 1) 32 _ (by simp [hN])
      have hB3 : Below N w W5 := by rw [← hW5]; exact (((Below.refl N w).alloc (by omega) _).alloc (by simp; omega) _).alloc (by simp; omega) _
      have HW5 : Hid _ := hW5
      clear hW5
      clear hW0 q2 q3 hp d0 d1 g0 g1 b2 HW
      go_enter Try.func59, Try.ntmps59
      go_wp2
      rw [HW5.out]
      have d0 : W5.cell? ⟨N + 1 + 1, 0, none⟩ = some (.slice va vn vc) := b9.cell 0
      have d1 : W5.cell? ⟨N + 1 + 1, 1, none⟩ = some (.int .i64 p.2.base) := b9.cell 1
      exact bodyPost_ret (v := .tuple #[tv (.slice va vn vc) p.2.base, .bool true]) (by simp [results, Try.results59, go_sem, d0, d1]) rfl ⟨by rw [HR.out]; simp only [fv, hv, Option.isSome_some], hB3⟩
    · have y2 : decide ((j : Int) < (n : Int)) = false := by simp; omega
      have y3 : decide ((j : Int) ≥ (n : Int)) = true := by simp; omega
      have y4 : decide ((n : Int) ≤ (j : Int)) = true := by simp; omega
      have HR : Hid (r = none) := by show _ = _; rw [← HP.out]; rw [if_neg h0, Int.toNat_natCast]; exact List.getElem?_eq_none (by rw [HN.out]; omega)
      clear hW0
      go_enter Try.func59, Try.ntmps59
      go_wp2
      rw [HW.out]
      exact bodyPost_ret (v := .tuple #[tv (.slice none 0 0) 0, .bool false]) (by simp [results, Try.results59, go_sem, d0, d1]) rfl ⟨by rw [HR.out]; rfl, bl0⟩

set_option maxRecDepth 100000 in
set_option maxHeartbeats 1600000 in
theorem find_m (bs i : Int) (px : List (Value × Ty)) (cv xv : Value) (xx : Value) (w : World) (hx : Lk w px xx) (hsl : ∀ p ∈ px, ∃ a n c, p.1 = .slice a n c) (hot : (∃ a n c, cv = .slice a n c) ∧ ∃ a n c, xv = .slice a n c) (hi : i ≤ 9223372036854775807) :
    Calls Try.prog 59 #[wov bs cv xx, xv, hv 2 i] w fun e w' => e = .returned (.tuple #[fv (if i < 0 then none else px[i.toNat]?), .bool (if i < 0 then none else px[i.toNat]?).isSome]) ∧ Below w.heap.size w w' := by
  obtain ⟨a, cap, rfl, hat⟩ := hx
  obtain ⟨⟨oa, on, oc, rfl⟩, pa, pn, pc, rfl⟩ := hot
  have HA : Hid _ := hat
  clear hat
  obtain ⟨N, hN⟩ : ∃ N, w.heap.size = N := ⟨_, rfl⟩
  rw [hN]
  obtain ⟨r, hr⟩ : ∃ r, (if i < 0 then none else px[i.toNat]?) = r := ⟨_, rfl⟩
  have HP : Hid _ := hr
  rw [hr]
  clear hr
  obtain ⟨n, hn⟩ : ∃ n, px.length = n := ⟨_, rfl⟩
  have HN : Hid (px.length = n) := hn
  rw [hn]
  clear hn
  obtain ⟨W0, hW0⟩ : ∃ W0, ((w.alloc (.cells #[.int .i64 bs, .slice oa on oc, .slice a n cap] 57)).alloc (.cells #[.int .i64 2, .int .i64 i] 73)).alloc (.cells #[.slice none 0 0, .int .i64 0] 32) = W0 := ⟨_, rfl⟩
  have b2 : Blk W0 (N + 1 + 1) 32 #[.slice none 0 0, .int .i64 0] := by rw [← hW0]; exact Blk.new' _ (N + 1 + 1) 32 _ (by simp [hN])
  have bl0 : Below N w W0 := by rw [← hW0]; exact (((Below.refl N w).alloc (by omega) _).alloc (by simp; omega) _).alloc (by simp; omega) _
  have HW : Hid _ := hW0
  have d0 := b2.cell 0
  have d1 := b2.cell 1
  have g0 := b2.frozen 0
  have g1 := b2.frozen 1
  by_cases h0 : i < 0
  · have y1 : decide (i < 0) = true := by simp [h0]
    have HR : Hid (r = none) := by show _ = _; rw [← HP.out, if_pos h0]
    clear hW0
    go_enter Try.func59, Try.ntmps59
    go_wp2
    rw [HW.out]
    exact bodyPost_ret (v := .tuple #[tv (.slice none 0 0) 0, .bool false]) (by simp [results, Try.results59, go_sem, d0, d1]) rfl ⟨by rw [HR.out]; rfl, bl0⟩
  · have y1 : decide (i < 0) = false := by simp; omega
    obtain ⟨j, rfl⟩ : ∃ j : Nat, i = (j : Int) := ⟨i.toNat, by omega⟩
    by_cases hl : j < n
    · have y2 : decide ((j : Int) < (n : Int)) = true := by simp; omega
      have y3 : decide ((j : Int) ≥ (n : Int)) = false := by simp; omega
      have y4 : decide ((n : Int) ≤ (j : Int)) = false := by simp; omega
      have v1 : (0 : Int) ≤ (j : Int) := by omega
      have v2 : (j : Int) < (n : Int) := by omega
      obtain ⟨p, hp⟩ : ∃ p, px[j]? = some p := ⟨_, List.getElem?_eq_getElem (by rw [HN.out]; omega)⟩
      have HR : Hid (r = some p) := by show _ = _; rw [← HP.out]; rw [if_neg h0, Int.toNat_natCast]; exact hp
      obtain ⟨g, o, rfl, q0, q1⟩ := HA.out j p hp
      have HV : Hid (∃ a n c, p.1 = .slice a n c) := hsl p (List.mem_of_getElem? hp)
      obtain ⟨va, vn, vc, hv⟩ := HV.out
      have hgl : g < w.heap.size := lt_of_cell q0
      have q2 := fun w' (hb : Below N w w') => (hb.cell (p := ⟨g, _, none⟩) (by rw [← hN]; exact hgl)).trans q0
      have q3 := fun w' (hb : Below N w w') => (hb.cell (p := ⟨g, _, none⟩) (by rw [← hN]; exact hgl)).trans q1
      clear q0 q1
      have q0 := q2 W0 bl0
      have q1 := q3 W0 bl0
      rw [hv] at q0
      rw [← hW0] at q0 q1
      obtain ⟨W5, hW5⟩ : ∃ W5, ((w.alloc (.cells #[.int .i64 bs, .slice oa on oc, .slice (some ⟨g, o, none⟩) n cap] 57)).alloc (.cells #[.int .i64 2, .int .i64 (j : Int)] 73)).alloc (.cells #[.slice va vn vc, .int .i64 p.2.base] 32) = W5 := ⟨_, rfl⟩
      have b9 : Blk W5 (N + 1 + 1) 32 #[.slice va vn vc, .int .i64 p.2.base] := by rw [← hW5]; exact Blk.new' _ (N + 1 + 1) 32 _ (by simp [hN])
      have hB3 : Below N w W5 := by rw [← hW5]; exact (((Below.refl N w).alloc (by omega) _).alloc (by simp; omega) _).alloc (by simp; omega) _
      have HW5 : Hid _ := hW5
      clear hW5
      clear hW0 q2 q3 hp d0 d1 g0 g1 b2 HW
      go_enter Try.func59, Try.ntmps59
      go_wp2
      rw [HW5.out]
      have d0 : W5.cell? ⟨N + 1 + 1, 0, none⟩ = some (.slice va vn vc) := b9.cell 0
      have d1 : W5.cell? ⟨N + 1 + 1, 1, none⟩ = some (.int .i64 p.2.base) := b9.cell 1
      exact bodyPost_ret (v := .tuple #[tv (.slice va vn vc) p.2.base, .bool true]) (by simp [results, Try.results59, go_sem, d0, d1]) rfl ⟨by rw [HR.out]; simp only [fv, hv, Option.isSome_some], hB3⟩
    · have y2 : decide ((j : Int) < (n : Int)) = false := by simp; omega
      have y3 : decide ((j : Int) ≥ (n : Int)) = true := by simp; omega
      have y4 : decide ((n : Int) ≤ (j : Int)) = true := by simp; omega
      have HR : Hid (r = none) := by show _ = _; rw [← HP.out]; rw [if_neg h0, Int.toNat_natCast]; exact List.getElem?_eq_none (by rw [HN.out]; omega)
      clear hW0
      go_enter Try.func59, Try.ntmps59
      go_wp2
      rw [HW.out]
      exact bodyPost_ret (v := .tuple #[tv (.slice none 0 0) 0, .bool false]) (by simp [results, Try.results59, go_sem, d0, d1]) rfl ⟨by rw [HR.out]; rfl, bl0⟩

set_option maxRecDepth 100000 in
set_option maxHeartbeats 1600000 in
theorem find_o (bs i k : Int) (cv mv xv : Value) (w : World) (hk0 : k ≠ 0) (hk1 : k ≠ 1) (hk2 : k ≠ 2) (h63 : (∃ a n c, xv = .slice a n c) ∧ (∃ a n c, cv = .slice a n c) ∧ ∃ a n c, mv = .slice a n c) :
    Calls Try.prog 59 #[wov bs cv mv, xv, hv k i] w fun e w' => e = .returned (.tuple #[tv (.slice none 0 0) 0, .bool false]) ∧ Below w.heap.size w w' := by
  obtain ⟨xa, xn, xc, rfl⟩ := h63.1
  obtain ⟨ya, yn, yc, rfl⟩ := h63.2.1
  obtain ⟨za, zn, zc, rfl⟩ := h63.2.2
  obtain ⟨N, hN⟩ : ∃ N, w.heap.size = N := ⟨_, rfl⟩
  rw [hN]
  obtain ⟨W0, hW0⟩ : ∃ W0, ((w.alloc (.cells #[.int .i64 bs, .slice ya yn yc, .slice za zn zc] 57)).alloc (.cells #[.int .i64 k, .int .i64 i] 73)).alloc (.cells #[.slice none 0 0, .int .i64 0] 32) = W0 := ⟨_, rfl⟩
  have b2 : Blk W0 (N + 1 + 1) 32 #[.slice none 0 0, .int .i64 0] := by rw [← hW0]; exact Blk.new' _ (N + 1 + 1) 32 _ (by simp [hN])
  have bl0 : Below N w W0 := by rw [← hW0]; exact (((Below.refl N w).alloc (by omega) _).alloc (by simp; omega) _).alloc (by simp; omega) _
  have HW : Hid _ := hW0
  have d0 := b2.cell 0
  have d1 := b2.cell 1
  have z0 : (k == 0) = false := by simp [hk0]
  have z1 : (k == 1) = false := by simp [hk1]
  have z2 : (k == 2) = false := by simp [hk2]
  clear hW0 hk0 hk1 hk2
  obtain ⟨dd, hd⟩ : ∃ d, decide (i < 0) = d := ⟨_, rfl⟩
  obtain ⟨dx, hdx⟩ : ∃ d, decide (i ≥ 0) = d := ⟨_, rfl⟩
  have hdy : decide (0 ≤ i) = dx := hdx
  clear hd hdx hdy dx
  by_cases hi0 : i < 0
  · have hd : decide (i < 0) = true := by simp [hi0]
    go_enter Try.func59, Try.ntmps59
    go_wp2
    rw [HW.out]
    exact bodyPost_ret (v := .tuple #[tv (.slice none 0 0) 0, .bool false]) (by simp [results, Try.results59, go_sem, d0, d1]) rfl ⟨rfl, bl0⟩
  have hd : decide (i < 0) = false := by simp; omega
  have hdx : decide (i ≥ 0) = true := by simp; omega
  have hdy : decide (0 ≤ i) = true := by simp; omega
  all_goals
    go_enter Try.func59, Try.ntmps59
    go_wp2
    rw [HW.out]
    exact bodyPost_ret (v := .tuple #[tv (.slice none 0 0) 0, .bool false]) (by simp [results, Try.results59, go_sem, d0, d1]) rfl ⟨rfl, bl0⟩

theorem find_calls (bs k i : Int) (pc pm px : List (Value × Ty)) (cv mv xv : Value) (w : World) (hc : Lk w pc cv) (hm : Lk w pm mv) (hx : Lk w px xv) (sc : ∀ p ∈ pc, ∃ a n c, p.1 = .slice a n c) (sm : ∀ p ∈ pm, ∃ a n c, p.1 = .slice a n c) (sx : ∀ p ∈ px, ∃ a n c, p.1 = .slice a n c)
    (lx : px.length ≤ 1000000) (hi : i ≤ 9223372036854775807) :
    Calls Try.prog 59 #[wov bs cv mv, xv, hv k i] w fun e w' => e = .returned (.tuple #[fv (pickA pc pm px k i), .bool (pickA pc pm px k i).isSome]) ∧ Below w.heap.size w w' := by
  unfold pickA
  by_cases h0 : k = 0
  · subst h0
    simp only [if_true]
    exact find_b bs i px cv mv xv w hx sx ⟨hc.isSlice, hm.isSlice⟩ lx hi
  · by_cases h1 : k = 1
    · subst h1
      simp only [if_true, show ¬ ((1 : Int) = 0) by decide, if_false]
      exact find_c bs i pc mv xv cv w hc sc ⟨hm.isSlice, hx.isSlice⟩ hi
    · by_cases h2 : k = 2
      · subst h2
        simp only [if_true, show ¬ ((2 : Int) = 0) by decide, show ¬ ((2 : Int) = 1) by decide, if_false]
        exact find_m bs i pm cv xv mv w hm sm ⟨hc.isSlice, hx.isSlice⟩ hi
      · simp only [if_neg h0, if_neg h1, if_neg h2, ite_self]
        exact find_o bs i k cv mv xv w h0 h1 h2 ⟨hx.isSlice, hc.isSlice, hm.isSlice⟩

end Go.Proofs.Ytckagmagjogmnaa

/-
  The contract of the document's HeadType: a head's type, as it stands in a world or a context.
-/
namespace Go.Proofs.Ytckagmagjogmnaa
open Go Go.RowKit

set_option maxRecDepth 100000 in
set_option maxHeartbeats 1600000 in
theorem rht_b (bs i : Int) (px : List (Value × Ty)) (cv mv : Value) (xx : Value) (w : World) (hx : Lk w px xx) (hsl : ∀ p ∈ px, ∃ a n c, p.1 = .slice a n c) (hot : (∃ a n c, cv = .slice a n c) ∧ ∃ a n c, mv = .slice a n c) (hln : px.length ≤ 1000000) (hi : i ≤ 9223372036854775807) :
    Calls Try.prog 76 #[wov bs cv mv, xx, hv 0 i] w fun e w' => e = .returned (.tuple #[fv (if i < 0 then none else if i.toNat < px.length then px[px.length - 1 - i.toNat]? else none), .bool (if i < 0 then none else if i.toNat < px.length then px[px.length - 1 - i.toNat]? else none).isSome]) ∧ Below w.heap.size w w' := by
  obtain ⟨a, cap, rfl, hat⟩ := hx
  obtain ⟨⟨oa, on, oc, rfl⟩, pa, pn, pc, rfl⟩ := hot
  have HA : Hid _ := hat
  clear hat
  obtain ⟨N, hN⟩ : ∃ N, w.heap.size = N := ⟨_, rfl⟩
  rw [hN]
  obtain ⟨r, hr⟩ : ∃ r, (if i < 0 then none else if i.toNat < px.length then px[px.length - 1 - i.toNat]? else none) = r := ⟨_, rfl⟩
  have HP : Hid _ := hr
  rw [hr]
  clear hr
  obtain ⟨n, hn⟩ : ∃ n, px.length = n := ⟨_, rfl⟩
  have HN : Hid (px.length = n) := hn
  rw [hn] at hln ⊢
  clear hn
  obtain ⟨W0, hW0⟩ : ∃ W0, ((w.alloc (.cells #[.int .i64 bs, .slice oa on oc, .slice pa pn pc] 47)).alloc (.cells #[.int .i64 0, .int .i64 i] 68)).alloc (.cells #[.slice none 0 0, .int .i64 0] 24) = W0 := ⟨_, rfl⟩
  have b2 : Blk W0 (N + 1 + 1) 24 #[.slice none 0 0, .int .i64 0] := by rw [← hW0]; exact Blk.new' _ (N + 1 + 1) 24 _ (by simp [hN])
  have bl0 : Below N w W0 := by rw [← hW0]; exact (((Below.refl N w).alloc (by omega) _).alloc (by simp; omega) _).alloc (by simp; omega) _
  have HW : Hid _ := hW0
  have d0 := b2.cell 0
  have d1 := b2.cell 1
  have g0 := b2.frozen 0
  have g1 := b2.frozen 1
  by_cases h0 : i < 0
  · have y1 : decide (i < 0) = true := by simp [h0]
    have HR : Hid (r = none) := by show _ = _; rw [← HP.out, if_pos h0]
    clear hW0
    go_enter Try.func76, Try.ntmps76
    go_wp2
    rw [HW.out]
    exact bodyPost_ret (v := .tuple #[tv (.slice none 0 0) 0, .bool false]) (by simp [results, Try.results76, go_sem, d0, d1]) rfl ⟨by rw [HR.out]; rfl, bl0⟩
  · have y1 : decide (i < 0) = false := by simp; omega
    obtain ⟨j, rfl⟩ : ∃ j : Nat, i = (j : Int) := ⟨i.toNat, by omega⟩
    by_cases hl : j < n
    · have y2 : decide ((j : Int) < (n : Int)) = true := by simp; omega
      have y3 : decide ((j : Int) ≥ (n : Int)) = false := by simp; omega
      have y4 : decide ((n : Int) ≤ (j : Int)) = false := by simp; omega
      have v1 : (0 : Int) ≤ (j : Int) := by omega
      have v2 : (j : Int) < (n : Int) := by omega
      obtain ⟨m, hm⟩ : ∃ m : Nat, (n : Int) - 1 - (j : Int) = (m : Int) := ⟨n - 1 - j, by omega⟩
      have hmn : m = n - 1 - j := by omega
      have v3 : (0 : Int) ≤ (m : Int) := by omega
      have v4 : (m : Int) < (n : Int) := by omega
      obtain ⟨p, hp⟩ : ∃ p, px[m]? = some p := ⟨_, List.getElem?_eq_getElem (by rw [HN.out]; omega)⟩
      have HR : Hid (r = some p) := by show _ = _; rw [← HP.out]; rw [if_neg h0, if_pos (by rw [HN.out]; exact hl), HN.out, Int.toNat_natCast, ← hmn]; exact hp
      obtain ⟨g, o, rfl, q0, q1⟩ := HA.out m p hp
      have HV : Hid (∃ a n c, p.1 = .slice a n c) := hsl p (List.mem_of_getElem? hp)
      obtain ⟨va, vn, vc, hv⟩ := HV.out
      have hgl : g < w.heap.size := lt_of_cell q0
      have q2 := fun w' (hb : Below N w w') => (hb.cell (p := ⟨g, _, none⟩) (by rw [← hN]; exact hgl)).trans q0
      have q3 := fun w' (hb : Below N w w') => (hb.cell (p := ⟨g, _, none⟩) (by rw [← hN]; exact hgl)).trans q1
      clear q0 q1
      have q0 := q2 W0 bl0
      have q1 := q3 W0 bl0
      rw [hv] at q0
      rw [← hW0] at q0 q1
      obtain ⟨W5, hW5⟩ : ∃ W5, ((w.alloc (.cells #[.int .i64 bs, .slice oa on oc, .slice pa pn pc] 47)).alloc (.cells #[.int .i64 0, .int .i64 (j : Int)] 68)).alloc (.cells #[.slice va vn vc, .int .i64 p.2.base] 24) = W5 := ⟨_, rfl⟩
      have b9 : Blk W5 (N + 1 + 1) 24 #[.slice va vn vc, .int .i64 p.2.base] := by rw [← hW5]; exact Blk.new' _ (N + 1 + 1) 24 _ (by simp [hN])
      have hB3 : Below N w W5 := by rw [← hW5]; exact (((Below.refl N w).alloc (by omega) _).alloc (by simp; omega) _).alloc (by simp; omega) _
      have HW5 : Hid _ := hW5
      clear hW5
      clear hW0 q2 q3 hp d0 d1 g0 g1 b2 HW hmn
      go_enter Try.func76, Try.ntmps76
      go_wp2
      rw [HW5.out]
      have d0 : W5.cell? ⟨N + 1 + 1, 0, none⟩ = some (.slice va vn vc) := b9.cell 0
      have d1 : W5.cell? ⟨N + 1 + 1, 1, none⟩ = some (.int .i64 p.2.base) := b9.cell 1
      exact bodyPost_ret (v := .tuple #[tv (.slice va vn vc) p.2.base, .bool true]) (by simp [results, Try.results76, go_sem, d0, d1]) rfl ⟨by rw [HR.out]; simp only [fv, hv, Option.isSome_some], hB3⟩
    · have y2 : decide ((j : Int) < (n : Int)) = false := by simp; omega
      have y3 : decide ((j : Int) ≥ (n : Int)) = true := by simp; omega
      have y4 : decide ((n : Int) ≤ (j : Int)) = true := by simp; omega
      have HR : Hid (r = none) := by show _ = _; rw [← HP.out]; rw [if_neg h0, if_neg (by rw [HN.out]; exact hl)]
      clear hW0
      go_enter Try.func76, Try.ntmps76
      go_wp2
      rw [HW.out]
      exact bodyPost_ret (v := .tuple #[tv (.slice none 0 0) 0, .bool false]) (by simp [results, Try.results76, go_sem, d0, d1]) rfl ⟨by rw [HR.out]; rfl, bl0⟩

set_option maxRecDepth 100000 in
set_option maxHeartbeats 1600000 in
theorem rht_c (bs i : Int) (px : List (Value × Ty)) (mv xv : Value) (xx : Value) (w : World) (hx : Lk w px xx) (hsl : ∀ p ∈ px, ∃ a n c, p.1 = .slice a n c) (hot : (∃ a n c, mv = .slice a n c) ∧ ∃ a n c, xv = .slice a n c) (hi : i ≤ 9223372036854775807) :
    Calls Try.prog 76 #[wov bs xx mv, xv, hv 1 i] w fun e w' => e = .returned (.tuple #[fv (if i < 0 then none else px[i.toNat]?), .bool (if i < 0 then none else px[i.toNat]?).isSome]) ∧ Below w.heap.size w w' := by
  obtain ⟨a, cap, rfl, hat⟩ := hx
  obtain ⟨⟨oa, on, oc, rfl⟩, pa, pn, pc, rfl⟩ := hot
  have HA : Hid _ := hat
  clear hat
  obtain ⟨N, hN⟩ : ∃ N, w.heap.size = N := ⟨_, rfl⟩
  rw [hN]
  obtain ⟨r, hr⟩ : ∃ r, (if i < 0 then none else px[i.toNat]?) = r := ⟨_, rfl⟩
  have HP : Hid _ := hr
  rw [hr]
  clear hr
  obtain ⟨n, hn⟩ : ∃ n, px.length = n := ⟨_, rfl⟩
  have HN : Hid (px.length = n) := hn
  rw [hn]
  clear hn
  obtain ⟨W0, hW0⟩ : ∃ W0, ((w.alloc (.cells #[.int .i64 bs, .slice a n cap, .slice oa on oc] 47)).alloc (.cells #[.int .i64 1, .int .i64 i] 68)).alloc (.cells #[.slice none 0 0, .int .i64 0] 24) = W0 := ⟨_, rfl⟩
  have b2 : Blk W0 (N + 1 + 1) 24 #[.slice none 0 0, .int .i64 0] := by rw [← hW0]; exact Blk.new' _ (N + 1 + 1) 24 _ (by simp [hN])
  have bl0 : Below N w W0 := by rw [← hW0]; exact (((Below.refl N w).alloc (by omega) _).alloc (by simp; omega) _).alloc (by simp; omega) _
  have HW : Hid _ := hW0
  have d0 := b2.cell 0
  have d1 := b2.cell 1
  have g0 := b2.frozen 0
  have g1 := b2.frozen 1
  by_cases h0 : i < 0
  · have y1 : decide (i < 0) = true := by simp [h0]
    have HR : Hid (r = none) := by show _ = _; rw [← HP.out, if_pos h0]
    clear hW0
    go_enter Try.func76, Try.ntmps76
    go_wp2
    rw [HW.out]
    exact bodyPost_ret (v := .tuple #[tv (.slice none 0 0) 0, .bool false]) (by simp [results, Try.results76, go_sem, d0, d1]) rfl ⟨by rw [HR.out]; rfl, bl0⟩
  · have y1 : decide (i < 0) = false := by simp; omega
    obtain ⟨j, rfl⟩ : ∃ j : Nat, i = (j : Int) := ⟨i.toNat, by omega⟩
    by_cases hl : j < n
    · have y2 : decide ((j : Int) < (n : Int)) = true := by simp; omega
      have y3 : decide ((j : Int) ≥ (n : Int)) = false := by simp; omega
      have y4 : decide ((n : Int) ≤ (j : Int)) = false := by simp; omega
      have v1 : (0 : Int) ≤ (j : Int) := by omega
      have v2 : (j : Int) < (n : Int) := by omega
      obtain ⟨p, hp⟩ : ∃ p, px[j]? = some p := ⟨_, List.getElem?_eq_getElem (by rw [HN.out]; omega)⟩
      have HR : Hid (r = some p) := by show _ = _; rw [← HP.out]; rw [if_neg h0, Int.toNat_natCast]; exact hp
      obtain ⟨g, o, rfl, q0, q1⟩ := HA.out j p hp
      have HV : Hid (∃ a n c, p.1 = .slice a n c) := hsl p (List.mem_of_getElem? hp)
      obtain ⟨va, vn, vc, hv⟩ := HV.out
      have hgl : g < w.heap.size := lt_of_cell q0
      have q2 := fun w' (hb : Below N w w') => (hb.cell (p := ⟨g, _, none⟩) (by rw [← hN]; exact hgl)).trans q0
      have q3 := fun w' (hb : Below N w w') => (hb.cell (p := ⟨g, _, none⟩) (by rw [← hN]; exact hgl)).trans q1
      clear q0 q1
      have q0 := q2 W0 bl0
      have q1 := q3 W0 bl0
      rw [hv] at q0
      rw [← hW0] at q0 q1
      obtain ⟨W5, hW5⟩ : ∃ W5, ((w.alloc (.cells #[.int .i64 bs, .slice (some ⟨g, o, none⟩) n cap, .slice oa on oc] 47)).alloc (.cells #[.int .i64 1, .int .i64 (j : Int)] 68)).alloc (.cells #[.slice va vn vc, .int .i64 p.2.base] 24) = W5 := ⟨_, rfl⟩
      have b9 : Blk W5 (N + 1 + 1) 24 #[.slice va vn vc, .int .i64 p.2.base] := by rw [← hW5]; exact Blk.new' _ (N + 1 + 1) 24 _ (by simp [hN])
      have hB3 : Below N w W5 := by rw [← hW5]; exact (((Below.refl N w).alloc (by omega) _).alloc (by simp; omega) _).alloc (by simp; omega) _
      have HW5 : Hid _ := hW5
      clear hW5
      clear hW0 q2 q3 hp d0 d1 g0 g1 b2 HW
      go_enter Try.func76, Try.ntmps76
      go_wp2
      rw [HW5.out]
      have d0 : W5.cell? ⟨N + 1 + 1, 0, none⟩ = some (.slice va vn vc) := b9.cell 0
      have d1 : W5.cell? ⟨N + 1 + 1, 1, none⟩ = some (.int .i64 p.2.base) := b9.cell 1
      exact bodyPost_ret (v := .tuple #[tv (.slice va vn vc) p.2.base, .bool true]) (by simp [results, Try.results76, go_sem, d0, d1]) rfl ⟨by rw [HR.out]; simp only [fv, hv, Option.isSome_some], hB3⟩
    · have y2 : decide ((j : Int) < (n : Int)) = false := by simp; omega
      have y3 : decide ((j : Int) ≥ (n : Int)) = true := by simp; omega
      have y4 : decide ((n : Int) ≤ (j : Int)) = true := by simp; omega
      have HR : Hid (r = none) := by show _ = _; rw [← HP.out]; rw [if_neg h0, Int.toNat_natCast]; exact List.getElem?_eq_none (by rw [HN.out]; omega)
      clear hW0
      go_enter Try.func76, Try.ntmps76
      go_wp2
      rw [HW.out]
      exact bodyPost_ret (v := .tuple #[tv (.slice none 0 0) 0, .bool false]) (by simp [results, Try.results76, go_sem, d0, d1]) rfl ⟨by rw [HR.out]; rfl, bl0⟩

set_option maxRecDepth 100000 in
set_option maxHeartbeats 1600000 in
theorem rht_m (bs i : Int) (px : List (Value × Ty)) (cv xv : Value) (xx : Value) (w : World) (hx : Lk w px xx) (hsl : ∀ p ∈ px, ∃ a n c, p.1 = .slice a n c) (hot : (∃ a n c, cv = .slice a n c) ∧ ∃ a n c, xv = .slice a n c) (hi : i ≤ 9223372036854775807) :
    Calls Try.prog 76 #[wov bs cv xx, xv, hv 2 i] w fun e w' => e = .returned (.tuple #[fv (if i < 0 then none else px[i.toNat]?), .bool (if i < 0 then none else px[i.toNat]?).isSome]) ∧ Below w.heap.size w w' := by
  obtain ⟨a, cap, rfl, hat⟩ := hx
  obtain ⟨⟨oa, on, oc, rfl⟩, pa, pn, pc, rfl⟩ := hot
  have HA : Hid _ := hat
  clear hat
  obtain ⟨N, hN⟩ : ∃ N, w.heap.size = N := ⟨_, rfl⟩
  rw [hN]
  obtain ⟨r, hr⟩ : ∃ r, (if i < 0 then none else px[i.toNat]?) = r := ⟨_, rfl⟩
  have HP : Hid _ := hr
  rw [hr]
  clear hr
  obtain ⟨n, hn⟩ : ∃ n, px.length = n := ⟨_, rfl⟩
  have HN : Hid (px.length = n) := hn
  rw [hn]
  clear hn
  obtain ⟨W0, hW0⟩ : ∃ W0, ((w.alloc (.cells #[.int .i64 bs, .slice oa on oc, .slice a n cap] 47)).alloc (.cells #[.int .i64 2, .int .i64 i] 68)).alloc (.cells #[.slice none 0 0, .int .i64 0] 24) = W0 := ⟨_, rfl⟩
  have b2 : Blk W0 (N + 1 + 1) 24 #[.slice none 0 0, .int .i64 0] := by rw [← hW0]; exact Blk.new' _ (N + 1 + 1) 24 _ (by simp [hN])
  have bl0 : Below N w W0 := by rw [← hW0]; exact (((Below.refl N w).alloc (by omega) _).alloc (by simp; omega) _).alloc (by simp; omega) _
  have HW : Hid _ := hW0
  have d0 := b2.cell 0
  have d1 := b2.cell 1
  have g0 := b2.frozen 0
  have g1 := b2.frozen 1
  by_cases h0 : i < 0
  · have y1 : decide (i < 0) = true := by simp [h0]
    have HR : Hid (r = none) := by show _ = _; rw [← HP.out, if_pos h0]
    clear hW0
    go_enter Try.func76, Try.ntmps76
    go_wp2
    rw [HW.out]
    exact bodyPost_ret (v := .tuple #[tv (.slice none 0 0) 0, .bool false]) (by simp [results, Try.results76, go_sem, d0, d1]) rfl ⟨by rw [HR.out]; rfl, bl0⟩
  · have y1 : decide (i < 0) = false := by simp; omega
    obtain ⟨j, rfl⟩ : ∃ j : Nat, i = (j : Int) := ⟨i.toNat, by omega⟩
    by_cases hl : j < n
    · have y2 : decide ((j : Int) < (n : Int)) = true := by simp; omega
      have y3 : decide ((j : Int) ≥ (n : Int)) = false := by simp; omega
      have y4 : decide ((n : Int) ≤ (j : Int)) = false := by simp; omega
      have v1 : (0 : Int) ≤ (j : Int) := by omega
      have v2 : (j : Int) < (n : Int) := by omega
      obtain ⟨p, hp⟩ : ∃ p, px[j]? = some p := ⟨_, List.getElem?_eq_getElem (by rw [HN.out]; omega)⟩
      have HR : Hid (r = some p) := by show _ = _; rw [← HP.out]; rw [if_neg h0, Int.toNat_natCast]; exact hp
      obtain ⟨g, o, rfl, q0, q1⟩ := HA.out j p hp
      have HV : Hid (∃ a n c, p.1 = .slice a n c) := hsl p (List.mem_of_getElem? hp)
      obtain ⟨va, vn, vc, hv⟩ := HV.out
      have hgl : g < w.heap.size := lt_of_cell q0
      have q2 := fun w' (hb : Below N w w') => (hb.cell (p := ⟨g, _, none⟩) (by rw [← hN]; exact hgl)).trans q0
      have q3 := fun w' (hb : Below N w w') => (hb.cell (p := ⟨g, _, none⟩) (by rw [← hN]; exact hgl)).trans q1
      clear q0 q1
      have q0 := q2 W0 bl0
      have q1 := q3 W0 bl0
      rw [hv] at q0
      rw [← hW0] at q0 q1
      obtain ⟨W5, hW5⟩ : ∃ W5, ((w.alloc (.cells #[.int .i64 bs, .slice oa on oc, .slice (some ⟨g, o, none⟩) n cap] 47)).alloc (.cells #[.int .i64 2, .int .i64 (j : Int)] 68)).alloc (.cells #[.slice va vn vc, .int .i64 p.2.base] 24) = W5 := ⟨_, rfl⟩
      have b9 : Blk W5 (N + 1 + 1) 24 #[.slice va vn vc, .int .i64 p.2.base] := by rw [← hW5]; exact Blk.new' _ (N + 1 + 1) 24 _ (by simp [hN])
      have hB3 : Below N w W5 := by rw [← hW5]; exact (((Below.refl N w).alloc (by omega) _).alloc (by simp; omega) _).alloc (by simp; omega) _
      have HW5 : Hid _ := hW5
      clear hW5
      clear hW0 q2 q3 hp d0 d1 g0 g1 b2 HW
      go_enter Try.func76, Try.ntmps76
      go_wp2
      rw [HW5.out]
      have d0 : W5.cell? ⟨N + 1 + 1, 0, none⟩ = some (.slice va vn vc) := b9.cell 0
      have d1 : W5.cell? ⟨N + 1 + 1, 1, none⟩ = some (.int .i64 p.2.base) := b9.cell 1
      exact bodyPost_ret (v := .tuple #[tv (.slice va vn vc) p.2.base, .bool true]) (by simp [results, Try.results76, go_sem, d0, d1]) rfl ⟨by rw [HR.out]; simp only [fv, hv, Option.isSome_some], hB3⟩
    · have y2 : decide ((j : Int) < (n : Int)) = false := by simp; omega
      have y3 : decide ((j : Int) ≥ (n : Int)) = true := by simp; omega
      have y4 : decide ((n : Int) ≤ (j : Int)) = true := by simp; omega
      have HR : Hid (r = none) := by show _ = _; rw [← HP.out]; rw [if_neg h0, Int.toNat_natCast]; exact List.getElem?_eq_none (by rw [HN.out]; omega)
      clear hW0
      go_enter Try.func76, Try.ntmps76
      go_wp2
      rw [HW.out]
      exact bodyPost_ret (v := .tuple #[tv (.slice none 0 0) 0, .bool false]) (by simp [results, Try.results76, go_sem, d0, d1]) rfl ⟨by rw [HR.out]; rfl, bl0⟩

set_option maxRecDepth 100000 in
set_option maxHeartbeats 1600000 in
theorem rht_o (bs i k : Int) (cv mv xv : Value) (w : World) (hk0 : k ≠ 0) (hk1 : k ≠ 1) (hk2 : k ≠ 2) (h63 : (∃ a n c, xv = .slice a n c) ∧ (∃ a n c, cv = .slice a n c) ∧ ∃ a n c, mv = .slice a n c) :
    Calls Try.prog 76 #[wov bs cv mv, xv, hv k i] w fun e w' => e = .returned (.tuple #[tv (.slice none 0 0) 0, .bool false]) ∧ Below w.heap.size w w' := by
  obtain ⟨xa, xn, xc, rfl⟩ := h63.1
  obtain ⟨ya, yn, yc, rfl⟩ := h63.2.1
  obtain ⟨za, zn, zc, rfl⟩ := h63.2.2
  obtain ⟨N, hN⟩ : ∃ N, w.heap.size = N := ⟨_, rfl⟩
  rw [hN]
  obtain ⟨W0, hW0⟩ : ∃ W0, ((w.alloc (.cells #[.int .i64 bs, .slice ya yn yc, .slice za zn zc] 47)).alloc (.cells #[.int .i64 k, .int .i64 i] 68)).alloc (.cells #[.slice none 0 0, .int .i64 0] 24) = W0 := ⟨_, rfl⟩
  have b2 : Blk W0 (N + 1 + 1) 24 #[.slice none 0 0, .int .i64 0] := by rw [← hW0]; exact Blk.new' _ (N + 1 + 1) 24 _ (by simp [hN])
  have bl0 : Below N w W0 := by rw [← hW0]; exact (((Below.refl N w).alloc (by omega) _).alloc (by simp; omega) _).alloc (by simp; omega) _
  have HW : Hid _ := hW0
  have d0 := b2.cell 0
  have d1 := b2.cell 1
  have z0 : (k == 0) = false := by simp [hk0]
  have z1 : (k == 1) = false := by simp [hk1]
  have z2 : (k == 2) = false := by simp [hk2]
  clear hW0 hk0 hk1 hk2
  obtain ⟨dd, hd⟩ : ∃ d, decide (i < 0) = d := ⟨_, rfl⟩
  skip
  cases dd
  all_goals
    go_enter Try.func76, Try.ntmps76
    go_wp2
    rw [HW.out]
    exact bodyPost_ret (v := .tuple #[tv (.slice none 0 0) 0, .bool false]) (by simp [results, Try.results76, go_sem, d0, d1]) rfl ⟨rfl, bl0⟩

theorem refHeadType_calls (bs k i : Int) (pc pm px : List (Value × Ty)) (cv mv xv : Value) (w : World) (hc : Lk w pc cv) (hm : Lk w pm mv) (hx : Lk w px xv) (sc : ∀ p ∈ pc, ∃ a n c, p.1 = .slice a n c) (sm : ∀ p ∈ pm, ∃ a n c, p.1 = .slice a n c) (sx : ∀ p ∈ px, ∃ a n c, p.1 = .slice a n c)
    (lx : px.length ≤ 1000000) (hi : i ≤ 9223372036854775807) :
    Calls Try.prog 76 #[wov bs cv mv, xv, hv k i] w fun e w' => e = .returned (.tuple #[fv (pickA pc pm px k i), .bool (pickA pc pm px k i).isSome]) ∧ Below w.heap.size w w' := by
  unfold pickA
  by_cases h0 : k = 0
  · subst h0
    simp only [if_true]
    exact rht_b bs i px cv mv xv w hx sx ⟨hc.isSlice, hm.isSlice⟩ lx hi
  · by_cases h1 : k = 1
    · subst h1
      simp only [if_true, show ¬ ((1 : Int) = 0) by decide, if_false]
      exact rht_c bs i pc mv xv cv w hc sc ⟨hm.isSlice, hx.isSlice⟩ hi
    · by_cases h2 : k = 2
      · subst h2
        simp only [if_true, show ¬ ((2 : Int) = 0) by decide, show ¬ ((2 : Int) = 1) by decide, if_false]
        exact rht_m bs i pm cv xv mv w hm sm ⟨hc.isSlice, hx.isSlice⟩ hi
      · simp only [if_neg h0, if_neg h1, if_neg h2, ite_self]
        exact rht_o bs i k cv mv xv w h0 h1 h2 ⟨hx.isSlice, hc.isSlice, hm.isSlice⟩

end Go.Proofs.Ytckagmagjogmnaa

/-
  append of a slice of types, nil or not, behind a row of one's own: one law for all cases. The contract of the document's Behind.
-/
namespace Go.Proofs.Ytckagmagjogmnaa
open Go Go.RowKit

/-- The cells of a slice of types that isn't nil. -/
theorem holds_cells {w : World} {ok : Nat → Prop} {ts : List Ty} {ad : Addr} {n cap : Nat} (h : Holds w ok ts (.slice (some ad) n cap)) :
    ∃ qs : List (Value × Ty), qs.map (·.2) = ts ∧ (∀ p ∈ qs, Holds w ok p.2.args p.1) ∧ (∀ j u, (pcells qs)[j]? = some u → w.cell? (ad.add j) = some u) ∧ ∀ u ∈ pcells qs, u.oneCell' = true := by
  cases hpe : ts with
  | nil => exact ⟨[], rfl, fun p hp => (by cases hp), fun j u h => by simp [pcells] at h, fun u h => by simp [pcells] at h⟩
  | cons t r =>
    obtain ⟨a', cap', e1, _, hat⟩ := h.shape
    obtain ⟨g, o, _, e2, _⟩ := hat 0 t (by rw [hpe]; rfl)
    cases e1
    cases e2
    obtain ⟨_, qs, h1, h2, h3, h4⟩ := h.row
    exact ⟨qs, by rw [← hpe]; exact h1, h2, fun j u hj => by have := h3 j u hj; rwa [show (⟨g, o, none⟩ : Addr).add j = ⟨g, o + j, none⟩ by simp [Addr.add]], h4⟩

theorem wp_append_types {P : Program} {w : World} {o : Oper} {a : Act} {K : Act → World → Prop} {Q : Exit → Act → World → Prop} (s x : Operand) (t : TypeId)
    (ho : o.op = .call { callee := .builtin .append, args := #[s, x], argTypes := #[t, t] })
    (base : Nat) (e : TypeId) (i : TypeInfo) (z : Value) (ht : P.underlying t = some (.slice e)) (hi : P.info? e = some i) (hz : i.zero = some z)
    (hsize : i.size = 2) (hby : i.bytes = 32) (hzs : z.cells.size = 2)
    (v : Value) (ps : List (Value × Ty)) (hs : a.eval s = v) (hown : w.ownsRow base e 2 v ps.length (pcells ps))
    (ok : Nat → Prop) (ts : List Ty) (sl : Value) (hx : a.eval x = sl) (hh : Holds w ok ts sl) (hlen : ps.length + ts.length ≤ 2000000) (hbase : base ≤ w.heap.size)
    (h : ∀ v' w' qs, qs.map (·.2) = ts → (∀ p ∈ qs, Holds w ok p.2.args p.1) → w'.ownsRow base e 2 v' (ps ++ qs).length (pcells (ps ++ qs)) → w.grownBy w' v.ownBlock → (v'.ownBlock = v.ownBlock ∨ v'.ownBlock = some w.heap.size) → K (a.put o.dst v') w') : o.wp P a w K Q := by
  obtain ⟨pa, pc, rfl, _⟩ := hh.shape
  cases pa with
  | none =>
    obtain ⟨e0, e1, e2⟩ := hh.isnil
    rw [e0, e1] at hx
    have hrun := run_append_owned_none (P := P) (w := w) base t o.type e i 2 ht hi v ps.length (pcells ps) hown
    unfold Oper.wp
    simp [execOp, ho, resolve, invoke, builtin, hs, hx, hrun, Result.andThen]
    exact h v w [] (by rw [e2]; rfl) (fun p hp => by cases hp) (by rw [List.append_nil]; exact hown) ⟨rfl, rfl, rfl, Nat.le_refl _, fun _ _ _ => rfl⟩ (.inl rfl)
  | some ad =>
    obtain ⟨qs, q1, q2, q3, q4⟩ := holds_cells hh
    have hql : qs.length = ts.length := by rw [← q1, List.length_map]
    obtain ⟨v', w', hr, h2, h3, _, h5⟩ := run_append_own_at (P := P) w base t o.type e i z 2 32 ht hi hz hsize hby hzs (by decide) v ps.length (pcells ps) hown ad ts.length pc (pcells qs) (by rw [pcells_length, hql]) q3 q4 (by unfold maxLen; omega) (by omega) hbase
    unfold Oper.wp execOp
    simp only [ho, resolve, invoke, builtin, Sem.run_bind, Sem.run_pure, Result.andThen_ok, List.map_toArray, List.map_cons, List.map_nil, hs, hx, hr]
    exact h v' w' qs q1 q2 (by rw [List.length_append, pcells_append, hql]; exact h2) h3 h5

theorem wpList_append_types {P : Program} {w : World} {ops : Array Oper} {rest : List Oper} {o : Oper} {a : Act} {Q : Exit → Act → World → Prop} (hgd : o.guard = none) (s x : Operand) (t : TypeId)
    (ho : o.op = .call { callee := .builtin .append, args := #[s, x], argTypes := #[t, t] })
    (base : Nat) (e : TypeId) (i : TypeInfo) (z : Value) (ht : P.underlying t = some (.slice e)) (hi : P.info? e = some i) (hz : i.zero = some z)
    (hsize : i.size = 2) (hby : i.bytes = 32) (hzs : z.cells.size = 2)
    (v : Value) (ps : List (Value × Ty)) (hs : a.eval s = v) (hown : w.ownsRow base e 2 v ps.length (pcells ps))
    (ok : Nat → Prop) (ts : List Ty) (sl : Value) (hx : a.eval x = sl) (hh : Holds w ok ts sl) (hlen : ps.length + ts.length ≤ 2000000) (hbase : base ≤ w.heap.size)
    (h : ∀ v' w' qs, qs.map (·.2) = ts → (∀ p ∈ qs, Holds w ok p.2.args p.1) → w'.ownsRow base e 2 v' (ps ++ qs).length (pcells (ps ++ qs)) → w.grownBy w' v.ownBlock → (v'.ownBlock = v.ownBlock ∨ v'.ownBlock = some w.heap.size) → wpList P ops Q rest (a.put o.dst v') w') : wpList P ops Q (o :: rest) a w :=
  wpList_plain hgd fun _ hK => wp_append_types s x t ho base e i z ht hi hz hsize hby hzs v ps hs hown ok ts sl hx hh hlen hbase fun v' w' qs h1 h2 h3 h4 h5 => hK _ _ (h v' w' qs h1 h2 h3 h4 h5)

theorem Mk.ofRow {w' : World} {N : Nat} {e : TypeId} {v : Value} {ps : List (Value × Ty)} {ok : Nat → Prop} (hr : w'.ownsRow N e 2 v ps.length (pcells ps)) (hk : ∀ p ∈ ps, Holds w' ok p.2.args p.1) : Holds w' (fun b => ok b ∨ N ≤ b) (ps.map (·.2)) v := by
  obtain ⟨h1, h2⟩ := id hr
  have hk' : ∀ p ∈ ps, Holds w' (fun b => ok b ∨ N ≤ b) p.2.args p.1 := fun p hp => (hk p hp).mono fun b _ ho => .inl ho
  obtain ⟨a, cap, e0, hat⟩ := lk_row hr
  rcases h2 with ⟨rfl, h2⟩ | ⟨g, cap', cur, rfl, e2, e3, e4, e5, e6⟩
  · have : ps = [] := List.eq_nil_of_length_eq_zero h2
    subst this
    exact Holds.nil _ _ _ _ (fun _ => rfl)
  · cases e0
    have := Holds.mk (w := w') (ok := fun b => ok b ∨ N ≤ b) (ps.map (·.2)) (some ⟨g, 0, none⟩) cap (fun i => ((ps[i]?).map (·.1)).getD undef) (by simpa using e4) (fun h => by cases h)
      (fun i u hi => by
        rw [List.getElem?_map] at hi
        obtain ⟨p, hp, rfl⟩ := Option.map_eq_some_iff.1 hi
        obtain ⟨g', o', e9, c0, c1⟩ := hat i p hp
        cases e9
        exact ⟨g, 0, rfl, .inr e2, by rw [c0, hp]; rfl, c1⟩)
      (fun i u hi => by
        rw [List.getElem?_map] at hi
        obtain ⟨p, hp, rfl⟩ := Option.map_eq_some_iff.1 hi
        rw [hp]
        exact hk' p (List.mem_of_getElem? hp))
    rwa [List.length_map] at this

set_option maxRecDepth 100000 in
set_option maxHeartbeats 1600000 in
theorem Behind_calls (ts us : List Ty) (ok : Nat → Prop) (sl sl' : Value) (w : World) (hh : Holds w ok ts sl) (hh' : Holds w ok us sl') (hl : ts.length + us.length ≤ 1000000) :
    Calls Try.prog 48 #[sl, sl'] w fun e w' => ∃ v, e = .returned v ∧ Holds w' (fun b => ok b ∨ w.heap.size ≤ b) (ts ++ us) v ∧ Below w.heap.size w w' := by
  obtain ⟨i0, hi, hz0, hz1, hz2⟩ := info_parts info24
  obtain ⟨N, hN⟩ : ∃ N, w.heap.size = N := ⟨_, rfl⟩
  rw [hN]
  obtain ⟨a1, c1, rfl, _⟩ := hh.shape
  obtain ⟨a2, c2, rfl, _⟩ := hh'.shape
  obtain ⟨n1, hn1⟩ : ∃ n, ts.length = n := ⟨_, rfl⟩
  obtain ⟨n2, hn2⟩ : ∃ n, us.length = n := ⟨_, rfl⟩
  rw [hn1] at hh hl ⊢
  rw [hn2] at hh' hl ⊢
  have HL1 : Hid _ := hn1
  have HL2 : Hid _ := hn2
  clear hn1 hn2
  have hrow := World.ownsRow_nil w N 24 2
  have hh := hh.mono (ok' := fun b => ok b ∧ b < N) fun b hb ho => ⟨ho, by rw [← hN]; exact hb⟩
  have hh' := hh'.mono (ok' := fun b => ok b ∧ b < N) fun b hb ho => ⟨ho, by rw [← hN]; exact hb⟩
  go_enter Try.func48, Try.ntmps48
  go_wp2_with (first
    | (at_builtin; refine wpList_append_types rfl _ _ 22 rfl N 24 i0 _ Try.underlying22 hi hz0 hz1 hz2 rfl _ qs rfl hown (fun b => ok b ∧ b < N) us (.slice a2 n2 c2) rfl hh2 (by rw [hql.out, HL2.out]; omega) hNw ?_; intro v3 w3 rs hr hkid2 hown3 hgrow3 _; obtain ⟨a3, c3, hv3⟩ := row_shape hown3; subst hv3)
    | (at_builtin; refine wpList_append_types rfl _ _ 22 rfl N 24 i0 _ Try.underlying22 hi hz0 hz1 hz2 rfl _ [] rfl hrow (fun b => ok b ∧ b < N) ts (.slice a1 n1 c1) rfl hh (by rw [HL1.out]; simp; omega) (by omega) ?_; intro v2 w2 qs hq hkid hown hgrow _; obtain ⟨a4, c4, hv2⟩ := row_shape hown; subst hv2; have hb2 : Below N w w2 := (Below.refl N w).grown hgrow (by omega) (fun j hj => (hrow.lt j hj).1); have hNw : N ≤ w2.heap.size := (by have := hb2.size; omega); have hh2 : Holds w2 (fun b => ok b ∧ b < N) us (.slice a2 n2 c2) := hh'.bel (by rw [hN]; exact hb2); have hql : Hid (qs.length = n1) := (by show _ = _; rw [← HL1.out, ← hq, List.length_map]); rw [List.nil_append] at hown; clear hgrow))
  have hb3 : Below N w w3 := hb2.grown hgrow3 (by omega) (fun j hj => (hown.lt j hj).1)
  have hb23 : Below N w2 w3 := (Below.refl N w2).grown hgrow3 hNw (fun j hj => (hown.lt j hj).1)
  go_ret
  have hkk : ∀ p ∈ qs ++ rs, Holds w3 (fun b => ok b ∧ b < N) p.2.args p.1 := fun p hp => by
    rcases List.mem_append.1 hp with hp | hp
    · exact (hkid p hp).bel (by rw [hN]; exact hb3)
    · exact (hkid2 p hp).belN (fun b hb => hb.2) hb23
  have hm := Mk.ofRow hown3 hkk
  rw [List.map_append, hq, hr, List.length_append] at hm
  exact ⟨_, rfl, hm.mono fun b _ ho => ho.imp (fun h => h.1) id, hb3⟩

end Go.Proofs.Ytckagmagjogmnaa

/-
  What find and the document's HeadType answer, told by the types: nothing, or a type and where its arguments lie.
-/
namespace Go.Proofs.Ytckagmagjogmnaa
open Go Go.RowKit

/-- A type that was looked for: not there, or there, its arguments' slice in blocks that ok lets by. -/
def Found (w : World) (ok : Nat → Prop) (o : Option Ty) (e : Ending) : Prop :=
  (o = none ∧ e = .returned (.tuple #[tv (.slice none 0 0) 0, .bool false])) ∨ ∃ h a n c, o = some h ∧ Holds w ok h.args (.slice a n c) ∧ e = .returned (.tuple #[tv (.slice a n c) h.base, .bool true])
theorem kids_slice {w : World} {ok : Nat → Prop} {ps : List (Value × Ty)} (h : ∀ p ∈ ps, Holds w ok p.2.args p.1) : ∀ p ∈ ps, ∃ a n c, p.1 = .slice a n c := fun p hp => by
  obtain ⟨a, c, e, _⟩ := (h p hp).shape
  exact ⟨a, _, c, e⟩
theorem found_of {w : World} {ok : Nat → Prop} {pc pm px : List (Value × Ty)} (k i : Int) (kc : ∀ p ∈ pc, Holds w ok p.2.args p.1) (km : ∀ p ∈ pm, Holds w ok p.2.args p.1) (kx : ∀ p ∈ px, Holds w ok p.2.args p.1) {e : Ending}
    (he : e = .returned (.tuple #[fv (pickA pc pm px k i), .bool (pickA pc pm px k i).isSome])) : Found w ok (pickA (pc.map (·.2)) (pm.map (·.2)) (px.map (·.2)) k i) e := by
  rw [pickA_map]
  cases hp : pickA pc pm px k i with
  | none => exact .inl ⟨rfl, by rw [he, hp]; rfl⟩
  | some p =>
    have hk : Holds w ok p.2.args p.1 := by
      rcases pickA_mem hp with h | h | h
      · exact kc p h
      · exact km p h
      · exact kx p h
    obtain ⟨a, c, e1, _⟩ := hk.shape
    refine .inr ⟨p.2, a, p.2.args.length, c, rfl, by rw [← e1]; exact hk, ?_⟩
    rw [he, hp]
    simp only [fv, e1, Option.isSome_some]

theorem find_rows (bs k i : Int) (ok : Nat → Prop) (pc pm px : List (Value × Ty)) (cv mv xv : Value) (w : World) (hc : Lk w pc cv) (hm : Lk w pm mv) (hx : Lk w px xv) (kc : ∀ p ∈ pc, Holds w ok p.2.args p.1) (km : ∀ p ∈ pm, Holds w ok p.2.args p.1) (kx : ∀ p ∈ px, Holds w ok p.2.args p.1)
    (lx : px.length ≤ 1000000) (hi : i ≤ 9223372036854775807) :
    Calls Try.prog 59 #[wov bs cv mv, xv, hv k i] w fun e w' => Found w ok (pickA (pc.map (·.2)) (pm.map (·.2)) (px.map (·.2)) k i) e ∧ Below w.heap.size w w' :=
  (find_calls bs k i pc pm px cv mv xv w hc hm hx (kids_slice kc) (kids_slice km) (kids_slice kx) lx hi).mono fun _ _ h => ⟨found_of k i kc km kx h.1, h.2⟩
theorem find_head (bs k i : Int) (ok : Nat → Prop) (cs ms ctx : List Ty) (cv mv xv : Value) (w : World) (hc : Holds w ok cs cv) (hm : Holds w ok ms mv) (hx : Holds w ok ctx xv) (lx : ctx.length ≤ 1000000) (hi : i ≤ 9223372036854775807) :
    Calls Try.prog 59 #[wov bs cv mv, xv, hv k i] w fun e w' => Found w ok (pickA cs ms ctx k i) e ∧ Below w.heap.size w w' := by
  obtain ⟨pc, c1, c2, c3⟩ := hc.lk
  obtain ⟨pm, m1, m2, m3⟩ := hm.lk
  obtain ⟨px, x1, x2, x3⟩ := hx.lk
  have := find_rows bs k i ok pc pm px cv mv xv w c1 m1 x1 c3 m3 x3 (by rw [← x2, List.length_map] at lx; exact lx) hi
  rwa [c2, m2, x2] at this

theorem rht_rows (bs k i : Int) (ok : Nat → Prop) (pc pm px : List (Value × Ty)) (cv mv xv : Value) (w : World) (hc : Lk w pc cv) (hm : Lk w pm mv) (hx : Lk w px xv) (kc : ∀ p ∈ pc, Holds w ok p.2.args p.1) (km : ∀ p ∈ pm, Holds w ok p.2.args p.1) (kx : ∀ p ∈ px, Holds w ok p.2.args p.1)
    (lx : px.length ≤ 1000000) (hi : i ≤ 9223372036854775807) :
    Calls Try.prog 76 #[wov bs cv mv, xv, hv k i] w fun e w' => Found w ok (pickA (pc.map (·.2)) (pm.map (·.2)) (px.map (·.2)) k i) e ∧ Below w.heap.size w w' :=
  (refHeadType_calls bs k i pc pm px cv mv xv w hc hm hx (kids_slice kc) (kids_slice km) (kids_slice kx) lx hi).mono fun _ _ h => ⟨found_of k i kc km kx h.1, h.2⟩
theorem rht_head (bs k i : Int) (ok : Nat → Prop) (cs ms ctx : List Ty) (cv mv xv : Value) (w : World) (hc : Holds w ok cs cv) (hm : Holds w ok ms mv) (hx : Holds w ok ctx xv) (lx : ctx.length ≤ 1000000) (hi : i ≤ 9223372036854775807) :
    Calls Try.prog 76 #[wov bs cv mv, xv, hv k i] w fun e w' => Found w ok (pickA cs ms ctx k i) e ∧ Below w.heap.size w w' := by
  obtain ⟨pc, c1, c2, c3⟩ := hc.lk
  obtain ⟨pm, m1, m2, m3⟩ := hm.lk
  obtain ⟨px, x1, x2, x3⟩ := hx.lk
  have := rht_rows bs k i ok pc pm px cv mv xv w c1 m1 x1 c3 m3 x3 (by rw [← x2, List.length_map] at lx; exact lx) hi
  rwa [c2, m2, x2] at this

end Go.Proofs.Ytckagmagjogmnaa

