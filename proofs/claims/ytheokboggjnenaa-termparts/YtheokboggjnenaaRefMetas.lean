/-
  Rows that rise: what is put in keeps them rising; two that hold the same are the same.
-/
import Derived.Test.YtheokboggjnenaaMetasT
import Derived.Test.YtheokboggjnenaaRefHeads2
import Derived.Test.YtheokboggjnenaaRefLoose
import Derived.Laws.AppendOwnNone
import Derived.Deep.DeepCutAuto
namespace Go.Proofs.Ytheokboggjnenaa
open Go Go.RowKit

/-- Where a number belongs in a rising row. -/
def pos (x : Int) : List Int → Nat
  | [] => 0
  | y :: r => if y < x then pos x r + 1 else 0
theorem pos_le (x : Int) (l : List Int) : pos x l ≤ l.length := by
  induction l with
  | nil => simp [pos]
  | cons y r ih => unfold pos; split <;> simp <;> omega
theorem pos_lt (x : Int) (l : List Int) : ∀ i, i < pos x l → ∃ y, l[i]? = some y ∧ y < x := by
  induction l with
  | nil => intro i h; simp [pos] at h
  | cons y r ih =>
    intro i h
    unfold pos at h
    split at h
    · rename_i hy
      cases i with
      | zero => exact ⟨y, rfl, hy⟩
      | succ i => exact ih i (by omega)
    · omega
theorem pos_at (x : Int) (l : List Int) (y : Int) (h : l[pos x l]? = some y) : ¬ y < x := by
  induction l with
  | nil => simp at h
  | cons z r ih =>
    unfold pos at h
    split at h
    · exact ih (by simpa using h)
    · rename_i hz
      simp at h
      omega
def insm (x : Int) (l : List Int) : List Int := if l[pos x l]? = some x then l else l.take (pos x l) ++ x :: l.drop (pos x l)
theorem insm_length (x : Int) (l : List Int) : (insm x l).length ≤ l.length + 1 := by
  have := pos_le x l
  unfold insm
  split
  · omega
  · simp; omega
theorem insm_mem (x : Int) (l : List Int) (z : Int) : z ∈ insm x l ↔ z = x ∨ z ∈ l := by
  unfold insm
  split
  · rename_i h
    exact ⟨.inr, fun h2 => h2.elim (fun e => e ▸ List.mem_of_getElem? h) id⟩
  · constructor
    · intro hz
      rcases List.mem_append.1 hz with h | h
      · exact .inr (List.mem_of_mem_take h)
      · rcases List.mem_cons.1 h with h | h
        · exact .inl h
        · exact .inr (List.mem_of_mem_drop h)
    · rintro (rfl | h)
      · simp
      · rw [← List.take_append_drop (pos x l) l] at h
        rcases List.mem_append.1 h with h | h
        · exact List.mem_append.2 (.inl h)
        · exact List.mem_append.2 (.inr (List.mem_cons_of_mem _ h))
theorem insm_rises (x : Int) (l : List Int) (h : l.Pairwise (· < ·)) : (insm x l).Pairwise (· < ·) := by
  unfold insm
  split
  · exact h
  · rename_i hx
    have h1 : ∀ a ∈ l.take (pos x l), a < x := by
      intro a ha
      obtain ⟨i, hi, e⟩ := List.getElem_of_mem ha
      rw [List.length_take] at hi
      obtain ⟨y, hy, hyx⟩ := pos_lt x l i (by omega)
      rw [List.getElem_take] at e
      have := List.getElem?_eq_getElem (l := l) (i := i) (by omega)
      rw [this, Option.some.injEq] at hy
      omega
    have h2 : ∀ b ∈ l.drop (pos x l), x < b := by
      intro b hb
      obtain ⟨i, hi, e⟩ := List.getElem_of_mem hb
      rw [List.length_drop] at hi
      rw [List.getElem_drop] at e
      have hp : pos x l < l.length := by omega
      have h3 := List.getElem?_eq_getElem (l := l) hp
      have h4 := pos_at x l _ h3
      have h5 : l[pos x l] ≠ x := fun e => hx (by rw [h3, e])
      rcases Nat.eq_zero_or_pos i with h0 | h0
      · subst h0
        simp at e
        omega
      · have := List.pairwise_iff_getElem.1 h (pos x l) (pos x l + i) hp (by omega) (by omega)
        omega
    refine List.pairwise_append.2 ⟨h.sublist (List.take_sublist _ _), List.pairwise_cons.2 ⟨h2, h.sublist (List.drop_sublist _ _)⟩, fun a ha b hb => ?_⟩
    rcases List.mem_cons.1 hb with rfl | hb
    · exact h1 a ha
    · have := h1 a ha; have := h2 b hb; omega
theorem rising_eq : ∀ (a b : List Int), a.Pairwise (· < ·) → b.Pairwise (· < ·) → (∀ z, z ∈ a ↔ z ∈ b) → a = b := by
  intro a
  induction a with
  | nil =>
    intro b _ _ h
    cases b with
    | nil => rfl
    | cons y r => exact absurd ((h y).2 (by simp)) (by simp)
  | cons x r ih =>
    intro b ha hb h
    cases b with
    | nil => exact absurd ((h x).1 (by simp)) (by simp)
    | cons y s =>
      rw [List.pairwise_cons] at ha hb
      have h1 : x = y := by
        rcases List.mem_cons.1 ((h x).1 (by simp)) with e | e
        · exact e
        · rcases List.mem_cons.1 ((h y).2 (by simp)) with e2 | e2
          · exact e2.symm
          · have := hb.1 x e; have := ha.1 y e2; omega
      subst h1
      rw [ih s ha.2 hb.2 fun z => ?_]
      constructor
      · intro hz
        rcases List.mem_cons.1 ((h z).1 (by simp [hz])) with e | e
        · subst e; have := ha.1 z hz; omega
        · exact e
      · intro hz
        rcases List.mem_cons.1 ((h z).2 (by simp [hz])) with e | e
        · subst e; have := hb.1 z hz; omega
        · exact e
/-- The metavariables, as the document gathers them. -/
def metR : List (Int × Int) → List Int → List Int
  | [], o => o
  | p :: r, o => metR r (if p.1 = 2 then insm p.2 o else o)
theorem metR_snoc (l : List (Int × Int)) (p : Int × Int) : ∀ o, metR (l ++ [p]) o = if p.1 = 2 then insm p.2 (metR l o) else metR l o := by
  induction l with
  | nil => intro o; rfl
  | cons q r ih => intro o; exact ih _
theorem metR_length (l : List (Int × Int)) : ∀ o, (metR l o).length ≤ o.length + l.length := by
  induction l with
  | nil => intro o; simp [metR]
  | cons q r ih =>
    intro o
    have := ih (if q.1 = 2 then insm q.2 o else o)
    have h2 := insm_length q.2 o
    simp only [metR, List.length_cons]
    have h3 : (if q.1 = 2 then insm q.2 o else o).length ≤ o.length + 1 := by split <;> omega
    omega
theorem metR_spec (l : List (Int × Int)) : ∀ o, o.Pairwise (· < ·) → (metR l o).Pairwise (· < ·) ∧ ∀ z, z ∈ metR l o ↔ z ∈ o ∨ (2, z) ∈ l := by
  induction l with
  | nil => intro o ho; exact ⟨ho, fun z => by simp [metR]⟩
  | cons q r ih =>
    intro o ho
    obtain ⟨q1, q2⟩ := q
    by_cases h : q1 = 2
    · obtain ⟨h1, h2⟩ := ih (insm q2 o) (insm_rises q2 o ho)
      simp only [metR, h, if_pos]
      refine ⟨h1, fun z => ?_⟩
      rw [h2 z, insm_mem]
      simp
      constructor
      · rintro ((e | e) | e)
        · exact .inr (.inl e)
        · exact .inl e
        · exact .inr (.inr e)
      · rintro (e | e | e)
        · exact .inl (.inr e)
        · exact .inl (.inl e)
        · exact .inr e
    · obtain ⟨h1, h2⟩ := ih o ho
      simp only [metR, if_neg h]
      refine ⟨h1, fun z => ?_⟩
      rw [h2 z]
      simp
      constructor
      · rintro (e | e)
        · exact .inl e
        · exact .inr (.inr e)
      · rintro (e | ⟨e, _⟩ | e)
        · exact .inl e
        · exact absurd e.symm h
        · exact .inr e
theorem mem_viss (l : List Hd) (z : Int) : (2, z) ∈ viss l ↔ z ∈ metI l := by
  unfold viss metI
  simp only [List.mem_filterMap]
  constructor
  · rintro ⟨p, hp, h⟩
    refine ⟨p, hp, ?_⟩
    unfold Hd.vis at h
    by_cases h0 : p.kind = 0
    · rw [if_neg (by simp [h0])] at h
      split at h <;> simp at h
    · rw [if_pos h0] at h
      simp at h
      rw [if_pos h.1, h.2]
  · rintro ⟨p, hp, h⟩
    refine ⟨p, hp, ?_⟩
    unfold Hd.vis
    by_cases h2 : p.kind = 2
    · rw [if_pos h2] at h
      simp at h
      rw [if_pos (by omega), h2, h]
    · rw [if_neg h2] at h
      cases h

end Go.Proofs.Ytheokboggjnenaa

/-
  The contract of the document's Metas, of one term.
-/
namespace Go.Proofs.Ytheokboggjnenaa
open Go Go.RowKit Go.Sort

theorem irow_form {w : World} {M n : Nat} {v : Value} {L : List Int} (h : w.ownsRow M 3 1 v n (ints L)) (hn : L.length = n) : ∃ g c, v = .slice g n c ∧ n ≤ c ∧ ((g = none ∧ n = 0 ∧ c = 0) ∨ ∃ q, g = some ⟨q, 0, none⟩) ∧ ∀ (i : Nat) x, L[i]? = some x → ∃ b, g = some ⟨b, 0, none⟩ ∧ w.cell? ⟨b, i, none⟩ = some (.int .i64 x) := by
  rcases h.2 with ⟨e1, e2⟩ | ⟨g, cap, cur, e1, e2, e3, e4, e5, e6⟩
  · refine ⟨none, 0, by rw [e1, e2], by omega, .inl ⟨rfl, e2, rfl⟩, fun i x hi => ?_⟩
    have := (List.getElem?_eq_some_iff.1 hi).1
    omega
  · refine ⟨some ⟨g, 0, none⟩, cap, e1, e4, .inr ⟨_, rfl⟩, fun i x hi => ⟨g, rfl, ?_⟩⟩
    have hil := (List.getElem?_eq_some_iff.1 hi).1
    subst e1
    have := World.ownsRow.cellAt h (j := i) (by omega)
    rw [this]
    exact ints_get2 _ i x hi

theorem empty_row (w : World) : (w.alloc (.cells #[] 3)).ownsRow w.heap.size 3 1 (.slice (some ⟨w.heap.size, 0, none⟩) 0 0) 0 [] := by
  have hb := Blk.new' w w.heap.size 3 #[] rfl
  exact ⟨rfl, .inr ⟨_, 0, #[], rfl, Nat.le_refl _, hb, Nat.le_refl _, Nat.zero_le _, rfl, rfl⟩⟩
theorem add_pl (b o i : Nat) : (⟨b, o, none⟩ : Addr).add i = ⟨b, o + i, none⟩ := by unfold Addr.add; split <;> simp_all
theorem src_take {W : World} {bo : Nat} {O : List Int} (h : ∀ j x, O[j]? = some x → W.cell? ⟨bo, j, none⟩ = some (.int .i64 x)) (i : Nat) : ∀ j u, (ints (O.take i))[j]? = some u → W.cell? ((⟨bo, 0, none⟩ : Addr).add j) = some u := by
  intro j u hu
  unfold ints at hu
  rw [List.getElem?_map] at hu
  obtain ⟨x, hx, rfl⟩ := Option.map_eq_some_iff.1 hu
  rw [List.getElem?_take] at hx
  split at hx
  · rw [add_pl, Nat.zero_add]
    exact h j x hx
  · cases hx
theorem src_drop {W : World} {bo : Nat} {O : List Int} (h : ∀ j x, O[j]? = some x → W.cell? ⟨bo, j, none⟩ = some (.int .i64 x)) (i : Nat) : ∀ j u, (ints (O.drop i))[j]? = some u → W.cell? ((⟨bo, i, none⟩ : Addr).add j) = some u := by
  intro j u hu
  unfold ints at hu
  rw [List.getElem?_map] at hu
  obtain ⟨x, hx, rfl⟩ := Option.map_eq_some_iff.1 hu
  rw [List.getElem?_drop] at hx
  rw [add_pl]
  exact h (i + j) x hx
theorem mid_ints (a b : List Int) (x : Int) : ints (a ++ x :: b) = [] ++ ints a ++ [.int .i64 x] ++ ints b := by simp [ints]

set_option maxRecDepth 100000 in
set_option maxHeartbeats 8000000 in
theorem refMetas_calls (t : Tm) (G : Nat) (ok : Nat → Prop) (w : World) (hh : HoldsT w ok [t] (.slice (some ⟨G, 0, none⟩) 1 1)) (hsz : t.total ≤ 1000) (hrg : t.rng) :
    Calls Try.prog 22 #[.slice (some ⟨G, 0, none⟩) 1 1] w fun e w' => ∃ v, e = .returned v ∧ w'.ownsRow w.heap.size 3 1 v (metR (viss (t.heads 1 0)) []).length (ints (metR (viss (t.heads 1 0)) [])) ∧ Below w.heap.size w w' := by
  obtain ⟨ga, gc, e1, _, hat⟩ := hh.shape
  cases e1
  obtain ⟨g, o, s, r, e1, hg, hgl, a0, a1, a2, a3, hs, hr⟩ := hat 0 t rfl
  cases e1
  obtain ⟨x1, x2, rfl, _⟩ := hs.shape
  obtain ⟨x3, x4, rfl, _⟩ := hr.shape
  have hlen := viss_length (t.heads 1 0)
  rw [t.heads_length] at hlen
  have hst := t.size_le_total
  have hcall := refHeadsT_calls t ok _ _ w hs hr (by omega) hrg
  obtain ⟨bn, hbn⟩ : ∃ n, t.binds.length = n := ⟨_, rfl⟩
  obtain ⟨an, han⟩ : ∃ n, t.args.length = n := ⟨_, rfl⟩
  rw [hbn] at a0 hcall
  rw [han] at a3 hcall
  obtain ⟨N, hN⟩ : ∃ N, w.heap.size = N := ⟨_, rfl⟩
  obtain ⟨L, hL⟩ : ∃ L, viss (t.heads 1 0) = L := ⟨_, rfl⟩
  rw [hL] at hlen hcall ⊢
  obtain ⟨n, hn⟩ : ∃ n, L.length = n := ⟨_, rfl⟩
  rw [hn] at hlen hcall
  rw [hN]
  obtain ⟨j0, hj, hy0, hy1, hy2⟩ := info_parts info3
  have HN : Hid (L.length = n) := hn
  have HW : Hid (w.heap.size = N) := hN
  have hn9 : n ≤ 1000 := by omega
  simp only [Nat.zero_mul, Nat.zero_add, Nat.add_zero] at a0 a1 a2 a3
  clear hL hn hlen hst hN hh hat hs hr hbn han hg
  go_enter Try.func22, Try.ntmps22
  go_wp2_with fail
  go_loopw [3, 4, 5, 6, 7, 8] (fun o i h k a nx wr => (i = .int .i64 0 ∧ o = .slice none 0 0 ∧ wr = w) ∨ (i = .int .i64 1 ∧ wr.ownsRow N 3 1 o (metR L []).length (ints (metR L [])) ∧ Below N w wr)) (fun _ i _ _ _ _ _ => 1 - (intOf i).toNat)
  case atStart => exact .inl ⟨rfl, rfl, rfl⟩
  case round =>
    rcases hrel with ⟨rfl, rfl, rfl⟩ | ⟨rfl, hrow, hbl⟩
    · go_wp2_with fail
      refine hcall.mono ?_
      clear hcall
      rintro e w2 ⟨v, rfl, h1, _, h3⟩
      obtain ⟨g2, c2, rfl, _, hat⟩ := hrow_form h1 HN.out
      have HAT : Hid _ := hat
      obtain ⟨S, hS⟩ : ∃ S, w2.heap.size = S := ⟨_, rfl⟩
      have hNS : N ≤ S := by have := h3.size; rw [HW.out] at this; omega
      clear hat h1 a0 a1 a2 a3
      go_wp2_with fail
      go_loopw [3, 6, 7, 8] (fun o k a nx wr => ∃ (m : Nat) (O : List Int), m ≤ n ∧ k = .int .i64 m ∧ Hid (O = metR (L.take m) []) ∧ wr.ownsRow S 3 1 o O.length (ints O) ∧ Below S w2 wr) (fun _ k _ _ _ => n - (intOf k).toNat)
      case atStart => exact ⟨0, [], Nat.zero_le _, rfl, rfl, World.ownsRow_nil _ _ _ _, Below.refl _ _⟩
      case round =>
        obtain ⟨m, O, hm, rfl, HO, hrow, hbr⟩ := hrel
        by_cases hlt : m < n
        · obtain ⟨x, hx⟩ : ∃ x, L[m]? = some x := ⟨_, List.getElem?_eq_getElem (by rw [HN.out]; exact hlt)⟩
          obtain ⟨b, rfl, q0, q1⟩ := HAT.out m x hx
          have hol : O.length ≤ 1000 := by
            rw [HO.out]
            have := metR_length (L.take m) []
            rw [List.length_take, HN.out] at this
            simp at this
            omega
          have HO2 : Hid (metR (L.take (m + 1)) [] = if x.1 = 2 then insm x.2 O else O) := by
            show _ = _
            rw [List.take_add_one, hx, HO.out]
            exact metR_snoc _ _ _
          have q2 := (cat hbr (hS ▸ lt_of_cell q0)).trans q0
          have q3 := (cat hbr (hS ▸ lt_of_cell q1)).trans q1
          obtain ⟨on, hon⟩ : ∃ n, O.length = n := ⟨_, rfl⟩
          rw [hon] at hrow hol
          obtain ⟨go, co, rfl, hco, hgo, hOat⟩ := irow_form hrow hon
          have y1 : (0 : Int) ≤ (m : Int) := by omega
          have y2 : (m : Int) < (n : Int) := by omega
          obtain ⟨xk, xi⟩ := x
          simp only at q2 q3 HO2
          clear hx q0 q1
          by_cases e1 : xk = 2
          · subst e1
            have HO3 : Hid (metR (L.take (m + 1)) [] = insm xi O) := by show _ = _; rw [HO2.out, if_pos rfl]
            clear HO2 HO
            go_wp2_with fail
            have hpl := pos_le xi O
            rw [hon] at hpl
            obtain ⟨p, hp⟩ : ∃ p, pos xi O = p := ⟨_, rfl⟩
            rw [hp] at hpl
            have hOn := hon
            have HP : Hid _ := hp
            have HON : Hid _ := hon
            have HOA : Hid _ := hOat
            obtain ⟨V, hV⟩ : ∃ V, V = wr := ⟨_, rfl⟩
            subst hV
            clear hp hon hOat
            have HGO : Hid _ := hgo
            clear hgo
            go_loopw [7] (fun a w3 => ∃ i : Nat, i ≤ p ∧ a = .int .i64 i ∧ Below V.heap.size V w3) (fun a _ => p - (intOf a).toNat)
            case atStart => exact ⟨0, Nat.zero_le _, rfl, Below.refl _ _⟩
            case round =>
              obtain ⟨i, hi, rfl, hb3⟩ := hrel
              have q4 := (cat hb3 (lt_of_cell q3)).trans q3
              clear q2
              by_cases hip : i < p
              · obtain ⟨y, hy, hyx⟩ := pos_lt xi O i (by rw [HP.out]; exact hip)
                obtain ⟨bo, hbo, qo⟩ := HOA.out i y hy
                subst hbo
                have q5 := (cat hb3 (lt_of_cell qo)).trans qo
                have z1 : decide ((i : Int) < (on : Int)) = true := by simp; omega
                have z2 : decide (y < xi) = true := decide_eq_true hyx
                have y3 : (0 : Int) ≤ (i : Int) := by omega
                have y4 : (i : Int) < (on : Int) := by omega
                clear hy hyx qo
                go_upto_region 11 with fail
                go_quiet (fail)
                go_wp2
                go_roundw
                case rel => exact ⟨i + 1, by omega, by go_num, bel_drewN hb3 _⟩
                case measure => simp [intOf]; omega
              · obtain rfl : i = p := by omega
                have z1 : (0 : Int) ≤ (i : Int) := by omega
                by_cases hio : i < on
                · obtain ⟨y, hy⟩ : ∃ y, O[i]? = some y := ⟨_, List.getElem?_eq_getElem (by omega)⟩
                  have hyx := pos_at xi O y (by rw [HP.out]; exact hy)
                  obtain ⟨bo, hbo, qo⟩ := HOA.out i y hy
                  subst hbo
                  have q5 := (cat hb3 (lt_of_cell qo)).trans qo
                  have z2 : decide ((i : Int) < (on : Int)) = true := by simp; omega
                  have z3 : decide (y < xi) = false := decide_eq_false hyx
                  have y4 : (i : Int) < (on : Int) := by omega
                  by_cases he : y = xi
                  · subst he
                    have HO4 : Hid (insm y O = O) := by show _ = _; unfold insm; rw [HP.out, if_pos hy]
                    clear hy hyx qo
                    go_upto_region 11 with fail
                    go_quiet (fail)
                    go_upto_region 13 with fail
                    go_quiet (fail)
                    go_wp2
                    go_roundw
                    case rel => exact ⟨m + 1, O, by omega, by go_num, by show _ = _; rw [HO3.out, HO4.out], by rw [HON.out]; exact row_bel hrow (bel_drewN hb3 _), hbr.trans ((bel_drewN hb3 _).mono (by have := hbr.size; omega))⟩
                    case measure => simp [intOf]; omega
                  · have z4 : (y == xi) = false := by simp [he]
                    have HO4 : Hid (insm xi O = O.take i ++ xi :: O.drop i) := by show _ = _; unfold insm; rw [HP.out, if_neg (by rw [hy]; simp [he])]
                    clear hyx hy he
                    go_upto_region 11 with fail
                    go_quiet (fail)
                    obtain ⟨W3, hW3⟩ : ∃ W, wr.drewN nq = W := ⟨_, rfl⟩
                    have hb3 : Below _ _ W3 := hW3 ▸ bel_drewN hb3 nq
                    rw [hW3]
                    have q4 := (cat hb3 (lt_of_cell q3)).trans q3
                    have q5 := (cat hb3 (lt_of_cell qo)).trans qo
                    clear hW3
                    go_upto_region 13 with fail
                    go_quiet (fail)
                    obtain ⟨W4, hW4⟩ : ∃ W, W3.drewN nq = W := ⟨_, rfl⟩
                    have hb4 : Below _ _ W4 := hW4 ▸ bel_drewN hb3 nq
                    rw [hW4]
                    clear q4 q5 qo hW4 z2 z3 z4
                    go_upto_region 14 with fail
                    have hcel : ∀ W : World, Below V.heap.size V W → ∀ j x, O[j]? = some x → W.cell? ⟨bo, j, none⟩ = some (.int .i64 x) := fun W hW j x hx => by
                      obtain ⟨b', e', q'⟩ := HOA.out j x hx
                      cases e'
                      exact (cat hW (lt_of_cell q')).trans q'
                    have hVX : V.heap.size ≤ W4.heap.size := hb4.size
                    have hE := empty_row W4
                    have hbE : Below V.heap.size V (W4.alloc (.cells #[] 3)) := hb4.alloc hVX _
                    have hol' := HON.out
                    have g1 : ¬ co = i := by omega
                    have g2 : ¬ co - i = 0 := by omega
                    have g3 : ¬ i = co := by omega
                    go_wp2_with (at_builtin; first
                      | (refine wpList_append_own _ rfl _ _ 41 rfl W4.heap.size 3 j0 (.int .i64 0) 1 8 Try.underlying41 hj hy0 hy1 hy2 rfl (by decide) _ 0 [] rfl hE ⟨bo, 0, none⟩ i co (ints (O.take i)) rfl (by rw [ints_length, List.length_take]; omega) (src_take (hcel _ hbE) i) (one_ints _) (by unfold maxLen; omega) (by omega) (by simp) ?_; intro v5 W5 hown5 hgrow5 _; have hs5 := hgrow5.size; have hb5 := hbE.grown hgrow5 (by simp; omega) (fun k hk => by have := (hE.lt k hk).1; omega); have q7 := (cat hb5 (lt_of_cell q3)).trans q3; rw [World.size_alloc] at hs5)
                      | (refine wpList_append_own _ rfl _ _ 41 rfl W4.heap.size 3 j0 (.int .i64 0) 1 8 Try.underlying41 hj hy0 hy1 hy2 rfl (by decide) _ (0 + i) ([] ++ ints (O.take i)) rfl (hown5.alloc _) ⟨W5.heap.size, 0, none⟩ 1 1 [.int .i64 xi] rfl rfl (cell_one _ W5.heap.size rfl _ _) (by simp [Value.oneCell']) (by unfold maxLen; omega) (by omega) (by simp; omega) ?_; intro v6 W6 hown6 hgrow6 _; have hs6 := hgrow6.size; have hb6 := (hb5.alloc (by omega) (.cells #[.int .i64 xi] 3)).grown hgrow6 (by simp; omega) (fun k hk => by have := (hown5.lt k hk).1; omega); rw [World.size_alloc] at hs6)
                      | (refine wpList_append_own _ rfl _ _ 41 rfl W4.heap.size 3 j0 (.int .i64 0) 1 8 Try.underlying41 hj hy0 hy1 hy2 rfl (by decide) _ (0 + i + 1) _ rfl hown6 ⟨bo, i, none⟩ (on - i) (co - i) (ints (O.drop i)) rfl (by rw [ints_length, List.length_drop]; omega) (src_drop (hcel _ hb6) i) (one_ints _) (by unfold maxLen; omega) (by omega) (by omega) ?_; intro v7 W7 hown7 hgrow7 _; have hb7 := hb6.grown hgrow7 (by omega) (fun k hk => by have := (hown6.lt k hk).1; omega)))
                    go_roundw
                    case rel => exact ⟨m + 1, O.take i ++ xi :: O.drop i, by omega, by go_num, by show _ = _; rw [HO3.out, HO4.out], by rw [mid_ints, show (O.take i ++ xi :: O.drop i).length = 0 + i + 1 + (on - i) by simp; omega]; exact row_mono hown7 (by have := hbr.size; omega), hbr.trans (hb7.mono (by have := hbr.size; omega))⟩
                    case measure => simp [intOf]; omega
                · have z2 : decide ((i : Int) < (on : Int)) = false := by simp; omega
                  have HO4 : Hid (insm xi O = O.take i ++ xi :: O.drop i) := by show _ = _; unfold insm; rw [HP.out, if_neg (by rw [List.getElem?_eq_none (by rw [HON.out]; omega)]; simp)]
                  rcases HGO.out with h0 | ⟨bo, rfl⟩
                  · obtain ⟨rfl, rfl, rfl⟩ := h0
                    obtain rfl : i = 0 := by omega
                    obtain rfl : O = [] := List.eq_nil_of_length_eq_zero HON.out
                    go_upto_region 11 with fail
                    go_quiet (fail)
                    obtain ⟨W3, hW3⟩ : ∃ W, wr.drewN nq = W := ⟨_, rfl⟩
                    have hb3 : Below _ _ W3 := hW3 ▸ bel_drewN hb3 nq
                    rw [hW3]
                    have q4 := (cat hb3 (lt_of_cell q3)).trans q3
                    clear hW3
                    go_upto_region 13 with fail
                    go_quiet (fail)
                    obtain ⟨W4, hW4⟩ : ∃ W, W3.drewN nq = W := ⟨_, rfl⟩
                    have hb4 : Below _ _ W4 := hW4 ▸ bel_drewN hb3 nq
                    rw [hW4]
                    clear q4 hW4
                    go_upto_region 14 with fail
                    have hVX : V.heap.size ≤ W4.heap.size := hb4.size
                    have hE := empty_row W4
                    have hbE : Below V.heap.size V (W4.alloc (.cells #[] 3)) := hb4.alloc hVX _
                    have q7 := (cat hbE (lt_of_cell q3)).trans q3
                    go_wp2_with (at_builtin; first
                      | (refine wpList_append_own_none rfl _ _ 41 rfl W4.heap.size 3 j0 1 Try.underlying41 hj _ 0 [] rfl hE rfl ?_)
                      | (refine wpList_append_own _ rfl _ _ 41 rfl W4.heap.size 3 j0 (.int .i64 0) 1 8 Try.underlying41 hj hy0 hy1 hy2 rfl (by decide) _ 0 [] rfl (hE.alloc _) ⟨W4.heap.size + 1, 0, none⟩ 1 1 [.int .i64 xi] rfl rfl (cell_one _ (W4.heap.size + 1) (by simp) _ _) (by simp [Value.oneCell']) (by unfold maxLen; omega) (by omega) (by simp; omega) ?_; intro v6 W6 hown6 hgrow6 _; have hs6 := hgrow6.size; have hb6 := (hbE.alloc (by simp; omega) (.cells #[.int .i64 xi] 3)).grown hgrow6 (by simp; omega) (fun k hk => by have := (hE.lt k hk).1; omega); simp only [World.size_alloc] at hs6)
                      | (refine wpList_append_own_none rfl _ _ 41 rfl W4.heap.size 3 j0 1 Try.underlying41 hj _ (0 + 1) _ rfl hown6 rfl ?_))
                    go_roundw
                    case rel => exact ⟨m + 1, [xi], by omega, by go_num, by show _ = _; rw [HO3.out, HO4.out]; rfl, row_mono hown6 (by have := hbr.size; omega), hbr.trans (hb6.mono (by have := hbr.size; omega))⟩
                    case measure => simp [intOf]; omega
                  · by_cases hci : co = i
                    · go_upto_region 11 with fail
                      go_quiet (fail)
                      obtain ⟨W3, hW3⟩ : ∃ W, wr.drewN nq = W := ⟨_, rfl⟩
                      have hb3 : Below _ _ W3 := hW3 ▸ bel_drewN hb3 nq
                      rw [hW3]
                      have q4 := (cat hb3 (lt_of_cell q3)).trans q3
                      clear hW3
                      go_upto_region 13 with fail
                      go_quiet (fail)
                      obtain ⟨W4, hW4⟩ : ∃ W, W3.drewN nq = W := ⟨_, rfl⟩
                      have hb4 : Below _ _ W4 := hW4 ▸ bel_drewN hb3 nq
                      rw [hW4]
                      clear q4 hW4
                      go_upto_region 14 with fail
                      have hcel : ∀ W : World, Below V.heap.size V W → ∀ j x, O[j]? = some x → W.cell? ⟨bo, j, none⟩ = some (.int .i64 x) := fun W hW j x hx => by
                        obtain ⟨b', e', q'⟩ := HOA.out j x hx
                        cases e'
                        exact (cat hW (lt_of_cell q')).trans q'
                      have hVX : V.heap.size ≤ W4.heap.size := hb4.size
                      have hE := empty_row W4
                      have hbE : Below V.heap.size V (W4.alloc (.cells #[] 3)) := hb4.alloc hVX _
                      have hol' := HON.out
                      have g2 : co - i = 0 := by omega
                      go_wp2_with (at_builtin; first
                        | (refine wpList_append_own _ rfl _ _ 41 rfl W4.heap.size 3 j0 (.int .i64 0) 1 8 Try.underlying41 hj hy0 hy1 hy2 rfl (by decide) _ 0 [] rfl hE ⟨bo, 0, none⟩ i _ (ints (O.take i)) rfl (by rw [ints_length, List.length_take]; omega) (src_take (hcel _ hbE) i) (one_ints _) (by unfold maxLen; omega) (by omega) (by simp) ?_; intro v5 W5 hown5 hgrow5 _; have hs5 := hgrow5.size; have hb5 := hbE.grown hgrow5 (by simp; omega) (fun k hk => by have := (hE.lt k hk).1; omega); have q7 := (cat hb5 (lt_of_cell q3)).trans q3; rw [World.size_alloc] at hs5)
                        | (refine wpList_append_own _ rfl _ _ 41 rfl W4.heap.size 3 j0 (.int .i64 0) 1 8 Try.underlying41 hj hy0 hy1 hy2 rfl (by decide) _ (0 + i) ([] ++ ints (O.take i)) rfl (hown5.alloc _) ⟨W5.heap.size, 0, none⟩ 1 1 [.int .i64 xi] rfl rfl (cell_one _ W5.heap.size rfl _ _) (by simp [Value.oneCell']) (by unfold maxLen; omega) (by omega) (by simp; omega) ?_; intro v6 W6 hown6 hgrow6 _; have hs6 := hgrow6.size; have hb6 := (hb5.alloc (by omega) (.cells #[.int .i64 xi] 3)).grown hgrow6 (by simp; omega) (fun k hk => by have := (hown5.lt k hk).1; omega); rw [World.size_alloc] at hs6)
                        | (refine wpList_append_own _ rfl _ _ 41 rfl W4.heap.size 3 j0 (.int .i64 0) 1 8 Try.underlying41 hj hy0 hy1 hy2 rfl (by decide) _ (0 + i + 1) _ rfl hown6 _ (on - i) _ (ints (O.drop i)) rfl (by rw [ints_length, List.length_drop]; omega) (fun j u hu => by rw [show O.drop i = [] from List.drop_eq_nil_of_le (by omega)] at hu; simp [ints] at hu) (one_ints _) (by unfold maxLen; omega) (by omega) (by omega) ?_; intro v7 W7 hown7 hgrow7 _; have hb7 := hb6.grown hgrow7 (by omega) (fun k hk => by have := (hown6.lt k hk).1; omega)))
                      go_roundw
                      case rel => exact ⟨m + 1, O.take i ++ xi :: O.drop i, by omega, by go_num, by show _ = _; rw [HO3.out, HO4.out], by rw [mid_ints, show (O.take i ++ xi :: O.drop i).length = 0 + i + 1 + (on - i) by simp; omega]; exact row_mono hown7 (by have := hbr.size; omega), hbr.trans (hb7.mono (by have := hbr.size; omega))⟩
                      case measure => simp [intOf]; omega
                    · go_upto_region 11 with fail
                      go_quiet (fail)
                      obtain ⟨W3, hW3⟩ : ∃ W, wr.drewN nq = W := ⟨_, rfl⟩
                      have hb3 : Below _ _ W3 := hW3 ▸ bel_drewN hb3 nq
                      rw [hW3]
                      have q4 := (cat hb3 (lt_of_cell q3)).trans q3
                      clear hW3
                      go_upto_region 13 with fail
                      go_quiet (fail)
                      obtain ⟨W4, hW4⟩ : ∃ W, W3.drewN nq = W := ⟨_, rfl⟩
                      have hb4 : Below _ _ W4 := hW4 ▸ bel_drewN hb3 nq
                      rw [hW4]
                      clear q4 hW4
                      go_upto_region 14 with fail
                      have hcel : ∀ W : World, Below V.heap.size V W → ∀ j x, O[j]? = some x → W.cell? ⟨bo, j, none⟩ = some (.int .i64 x) := fun W hW j x hx => by
                        obtain ⟨b', e', q'⟩ := HOA.out j x hx
                        cases e'
                        exact (cat hW (lt_of_cell q')).trans q'
                      have hVX : V.heap.size ≤ W4.heap.size := hb4.size
                      have hE := empty_row W4
                      have hbE : Below V.heap.size V (W4.alloc (.cells #[] 3)) := hb4.alloc hVX _
                      have hol' := HON.out
                      have g1 : ¬ co = i := hci
                      have g2 : ¬ co - i = 0 := by omega
                      have g3 : ¬ i = co := by omega
                      go_wp2_with (at_builtin; first
                        | (refine wpList_append_own _ rfl _ _ 41 rfl W4.heap.size 3 j0 (.int .i64 0) 1 8 Try.underlying41 hj hy0 hy1 hy2 rfl (by decide) _ 0 [] rfl hE ⟨bo, 0, none⟩ i co (ints (O.take i)) rfl (by rw [ints_length, List.length_take]; omega) (src_take (hcel _ hbE) i) (one_ints _) (by unfold maxLen; omega) (by omega) (by simp) ?_; intro v5 W5 hown5 hgrow5 _; have hs5 := hgrow5.size; have hb5 := hbE.grown hgrow5 (by simp; omega) (fun k hk => by have := (hE.lt k hk).1; omega); have q7 := (cat hb5 (lt_of_cell q3)).trans q3; rw [World.size_alloc] at hs5)
                        | (refine wpList_append_own _ rfl _ _ 41 rfl W4.heap.size 3 j0 (.int .i64 0) 1 8 Try.underlying41 hj hy0 hy1 hy2 rfl (by decide) _ (0 + i) ([] ++ ints (O.take i)) rfl (hown5.alloc _) ⟨W5.heap.size, 0, none⟩ 1 1 [.int .i64 xi] rfl rfl (cell_one _ W5.heap.size rfl _ _) (by simp [Value.oneCell']) (by unfold maxLen; omega) (by omega) (by simp; omega) ?_; intro v6 W6 hown6 hgrow6 _; have hs6 := hgrow6.size; have hb6 := (hb5.alloc (by omega) (.cells #[.int .i64 xi] 3)).grown hgrow6 (by simp; omega) (fun k hk => by have := (hown5.lt k hk).1; omega); rw [World.size_alloc] at hs6)
                        | (refine wpList_append_own _ rfl _ _ 41 rfl W4.heap.size 3 j0 (.int .i64 0) 1 8 Try.underlying41 hj hy0 hy1 hy2 rfl (by decide) _ (0 + i + 1) _ rfl hown6 ⟨bo, i, none⟩ (on - i) (co - i) (ints (O.drop i)) rfl (by rw [ints_length, List.length_drop]; omega) (src_drop (hcel _ hb6) i) (one_ints _) (by unfold maxLen; omega) (by omega) (by omega) ?_; intro v7 W7 hown7 hgrow7 _; have hb7 := hb6.grown hgrow7 (by omega) (fun k hk => by have := (hown6.lt k hk).1; omega)))
                      go_roundw
                      case rel => exact ⟨m + 1, O.take i ++ xi :: O.drop i, by omega, by go_num, by show _ = _; rw [HO3.out, HO4.out], by rw [mid_ints, show (O.take i ++ xi :: O.drop i).length = 0 + i + 1 + (on - i) by simp; omega]; exact row_mono hown7 (by have := hbr.size; omega), hbr.trans (hb7.mono (by have := hbr.size; omega))⟩
                      case measure => simp [intOf]; omega
          · have z1 : (xk == 2) = false := by simp [e1]
            have z2 : (xk != 2) = true := by simp [e1]
            have HO3 : Hid (metR (L.take (m + 1)) [] = O) := by show _ = _; rw [HO2.out, if_neg e1]
            clear HO2 HO e1
            go_wp2_with fail
            go_roundw
            case rel => exact ⟨m + 1, O, by omega, by go_num, HO3.out.symm, by rw [hon]; exact hrow, hbr⟩
            case measure => simp [intOf]; omega
        · obtain rfl : m = n := by omega
          have HT : Hid (O = metR L []) := by show _ = _; rw [HO.out, List.take_of_length_le (by rw [HN.out]; exact Nat.le_refl _)]
          go_wp2_with fail
          go_roundw
          case rel => exact .inr ⟨by go_num, by rw [← HT.out]; exact row_mono hrow hNS, (HW.out ▸ h3).trans (hbr.mono hNS)⟩
          case measure => simp [intOf]
    · go_wp2
      go_ret
      exact ⟨_, rfl, hrow, hbl⟩

end Go.Proofs.Ytheokboggjnenaa
