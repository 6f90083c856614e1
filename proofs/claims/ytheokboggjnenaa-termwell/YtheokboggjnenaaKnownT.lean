/-
  The contract of the law's known: the chapter's example.
-/
import Derived.Test.YtheokboggjnenaaVarE
import Derived.Test.YtheokboggjnenaaMake
namespace Go.Proofs.Ytheokboggjnenaa
open Go Go.RowKit Go.Sort

theorem Holds.t {w : World} {ok : Nat → Prop} {ts : List Ty} {v : Value} (h : Holds w ok ts v) : Holds w okT ts v := h.mono fun _ _ _ => trivial
/-- A slice of types that is built of values. -/
theorem holds_built (w : World) (B : Nat) (hB : w.heap.size = B) (ps : List (Value × Ty)) (e : TypeId) (hk : ∀ p ∈ ps, Holds w okT p.2.args p.1) (n : Nat) (hn : n = ps.length) (cs : Array Value) (hcs : cs = (pcells ps).toArray) : Holds (w.alloc (.cells cs e)) okT (ps.map (·.2)) (.slice (some ⟨B, 0, none⟩) n n) := by
  subst hcs
  subst hn
  have hb := Blk.new' w B e (pcells ps).toArray hB
  have hq : ∀ (i : Nat) (u : Ty), (ps.map (·.2))[i]? = some u → ∃ p : Value × Ty, ps[i]? = some p ∧ p.2 = u := by
    intro i u hi
    rw [List.getElem?_map] at hi
    exact Option.map_eq_some_iff.1 hi
  have := Holds.mk (w := w.alloc (.cells (pcells ps).toArray e)) (ok := okT) (ps.map (·.2)) (some ⟨B, 0, none⟩) ps.length (fun i => ((ps[i]?).map (·.1)).getD undef) (by simp) (fun h => by cases h)
    (fun i u hi => by
      obtain ⟨p, hp, rfl⟩ := hq i u hi
      obtain ⟨c0, c1⟩ := pcells_get ps i p hp
      refine ⟨B, 0, rfl, trivial, ?_, ?_⟩
      · rw [Nat.zero_add, hb.cell, List.getElem?_toArray, c0, hp]; rfl
      · rw [Nat.zero_add, hb.cell, List.getElem?_toArray, c1])
    (fun i u hi => by
      obtain ⟨p, hp, rfl⟩ := hq i u hi
      rw [hp]
      exact (hk p (List.mem_of_getElem? hp)).alloc _)
  rwa [List.length_map] at this


theorem HoldsT.t {w : World} {ok : Nat → Prop} {ts : List Tm} {v : Value} (h : HoldsT w ok ts v) : HoldsT w okT ts v := h.mono fun _ _ _ => trivial

def tyA : Ty := .mk [] 0
def tyAA : Ty := .mk [tyA] 0
theorem eta_ex : etaL [tyAA] = [.mk [tyA] 0 1 [.mk [] 0 0 []]] := by
  simp [etaL, etaY, etaK, tyAA, tyA, insI]
theorem var_ex : varR (.mk [tyAA] 1 0 (etaL [tyAA])) = (1, 0, true) := by
  have h : isEta (.mk [tyAA] 1 0 (etaL [tyAA])) 1 0 [tyAA] = true := by
    rw [isEta_iff, etaK_eq]; rfl
  unfold varR
  have hs : seen (Tm.mk [tyAA] 1 0 (etaL [tyAA])).kind (Tm.mk [tyAA] 1 0 (etaL [tyAA])).idx (Tm.mk [tyAA] 1 0 (etaL [tyAA])).binds.length = (1, 0, true) := rfl
  rw [hs]
  have hb : (Tm.mk [tyAA] 1 0 (etaL [tyAA])).binds = [tyAA] := rfl
  rw [hb, h]
  rfl
theorem tot_ex : (Tm.mk [tyAA] 1 0 (etaL [tyAA])).total ≤ 1000000 := by rw [eta_ex]; decide +kernel

set_option maxRecDepth 100000 in
set_option maxHeartbeats 1600000 in
theorem known_calls (w : World) : Calls Try.prog 10 #[] w fun e w' => e = .returned (.bool true) ∧ Below w.heap.size w w' := by
  obtain ⟨N, hN⟩ : ∃ N, w.heap.size = N := ⟨_, rfl⟩
  rw [hN]
  have k1 := kOf_calls 0 [] okT (.slice none 0 0) w (Holds.nil _ _ _ _ (fun _ => rfl)) (by decide +kernel)
  go_enter Try.func10, Try.ntmps10
  go_wp2_with fail
  refine k1.mono ?_
  rintro e w1 ⟨v1, rfl, h1, hb1⟩
  obtain ⟨a1, c1, rfl, _⟩ := h1.shape
  rw [hN] at hb1
  have hs1 : N ≤ w1.heap.size := by have := hb1.size; omega
  obtain ⟨w2, hw2⟩ : ∃ w2, w1.alloc (.cells #[.slice a1 0 c1, .int .i64 0] 63) = w2 := ⟨_, rfl⟩
  have bb2 : Below w1.heap.size w1 w2 := by rw [← hw2]; exact (Below.refl _ _).alloc (Nat.le_refl _) _
  have hB2 : Below N w w2 := hb1.trans (bb2.mono hs1)
  have h2 : Holds w2 okT tyA.args (.slice a1 0 c1) := (h1.bel bb2).t
  have bA : Blk w2 w1.heap.size 63 #[.slice a1 0 c1, .int .i64 0] := by rw [← hw2]; exact Blk.new w1 63 _
  obtain ⟨A, hA⟩ : ∃ A, w1.heap.size = A := ⟨_, rfl⟩
  rw [hA] at bA hs1
  have hz2 : w2.heap.size = A + 1 := by rw [← hw2]; simp [hA]
  have H3 := holds_built w2 (A + 1) hz2 [(.slice a1 0 c1, tyA)] 63 (fun p hp => by rw [List.mem_singleton.1 hp]; exact h2) 1 rfl #[.slice a1 0 c1, .int .i64 0] rfl
  obtain ⟨w3, hw3⟩ : ∃ w3, w2.alloc (.cells #[.slice a1 0 c1, .int .i64 0] 63) = w3 := ⟨_, rfl⟩
  have hB3 : Below N w w3 := by rw [← hw3]; exact hB2.alloc (by omega) _
  rw [hw3] at H3
  have hz3 : w3.heap.size = A + 2 := by rw [← hw3]; simp [hz2]
  have k2 := kOf_calls 0 [tyA] okT _ w3 H3 (by decide +kernel)
  have c0 := bA.cell 0
  have c1' := bA.cell 1
  have HW2 : Hid _ := hw2
  have HW3 : Hid _ := hw3
  clear hw2 hw3 k1 hb1 bb2 h1
  go_upto_region 2 with fail
  rw [HW2.out]
  go_wp2_with fail
  rw [HW3.out]
  refine k2.mono ?_
  clear HW2 HW3 k2 c0 c1' bA h2 hB2 H3
  rintro e w4 ⟨v4, rfl, h4, hb4⟩
  obtain ⟨a4, c4, rfl, _⟩ := h4.shape
  have hB4 : Below N w w4 := hB3.trans (hb4.mono (by omega))
  have hs4 : N ≤ w4.heap.size := by have := hB4.size; omega
  obtain ⟨D, hD⟩ : ∃ D, w4.heap.size = D := ⟨_, rfl⟩
  have H5 := holds_built w4 D hD [(.slice a4 1 c4, tyAA)] 63 (fun p hp => by rw [List.mem_singleton.1 hp]; exact h4.t) 1 rfl #[.slice a4 1 c4, .int .i64 0] rfl
  obtain ⟨w5, hw5⟩ : ∃ w5, w4.alloc (.cells #[.slice a4 1 c4, .int .i64 0] 63) = w5 := ⟨_, rfl⟩
  have hB5 : Below N w w5 := by rw [← hw5]; exact hB4.alloc (by omega) _
  rw [hw5] at H5
  have k3 := kOf_calls 0 [tyAA] okT _ w5 H5 (by decide +kernel)
  have HW5 : Hid _ := hw5
  have hs5 : N ≤ w5.heap.size := by have := hB5.size; omega
  clear hw5 hb4 h4 hz3
  go_wp2_with fail
  rw [HW5.out]
  refine k3.mono ?_
  clear HW5 k3 H5 hB4 hB3
  rintro e w6 ⟨v6, rfl, h6, hb6⟩
  obtain ⟨a6, c6, rfl, _⟩ := h6.shape
  have hB6 : Below N w w6 := hB5.trans (hb6.mono hs5)
  have hs6 : N ≤ w6.heap.size := by have := hB6.size; omega
  have k4 := Eta_good 1 0 (.mk [tyAA] 0) (.slice a6 1 c6) w6 h6.t (by decide +kernel) rfl
  simp only [show insI 1 0 (Ty.mk [tyAA] 0).args.length = 0 from rfl] at k4
  clear h6 hb6 hB5 hs5
  go_wp2_with fail
  refine k4.mono ?_
  clear k4
  rintro e w7 ⟨vb, vr, rfl, h7, t7, hb7⟩
  have h7' : Holds w7 okT [tyAA] vb := h7.t
  have t7' : HoldsT w7 okT (etaL [tyAA]) vr := t7.t
  have hB7 : Below N w w7 := hB6.trans (hb7.mono hs6)
  have hs7 : N ≤ w7.heap.size := by have := hB7.size; omega
  obtain ⟨b1, b2, rfl, _⟩ := h7'.shape
  obtain ⟨r1, r2, rfl, _⟩ := t7'.shape
  rw [show (etaL [tyAA]).length = 1 from rfl] at t7' ⊢
  clear h7 t7 hb7 hB6 hs6
  obtain ⟨E, hE⟩ : ∃ E, w7.heap.size = E := ⟨_, rfl⟩
  obtain ⟨w8, hw8⟩ : ∃ w8, w7.alloc (.cells #[.slice b1 1 b2, .int .i64 1, .int .i64 0, .slice r1 1 r2] 34) = w8 := ⟨_, rfl⟩
  have bb8 : Below w7.heap.size w7 w8 := by rw [← hw8]; exact (Below.refl _ _).alloc (Nat.le_refl _) _
  have hB8 : Below N w w8 := hB7.trans (bb8.mono hs7)
  have bE : Blk w8 E 34 #[.slice b1 1 b2, .int .i64 1, .int .i64 0, .slice r1 1 r2] := by rw [← hw8]; exact Blk.new' w7 E 34 _ hE
  have k5 := Var_calls (.mk [tyAA] 1 0 (etaL [tyAA])) _ _ w8 (h7'.bel bb8) (t7'.bel bb8) tot_ex (by decide)
  rw [var_ex] at k5
  have t8 := t7'.bel bb8
  have HW8 : Hid _ := hw8
  have c0 := bE.cell 0
  have c1' := bE.cell 1
  have c2 := bE.cell 2
  have c3 := bE.cell 3
  have hs8 : N ≤ w8.heap.size := by have := hB8.size; omega
  clear hw8 bb8 hB7 hs7 h7' t7'
  go_upto_region 3 with fail
  rw [HW8.out]
  clear HW8
  go_wp2_with fail
  refine k5.mono ?_
  rintro e w9 ⟨rfl, hb9⟩
  have hB9 : Below N w w9 := hB8.trans (hb9.mono hs8)
  have e9 := bE.below hb9 bE.lt
  have t9 := t8.bel hb9
  clear k5 c0 c1' c2 c3 bE hb9 hB8 hs8 t8
  obtain ⟨F, hF⟩ : ∃ F, w9.heap.size = F := ⟨_, rfl⟩
  obtain ⟨w10, hw10⟩ : ∃ w10, w9.alloc (.cells #[.int .i64 1, .int .i64 0] 31) = w10 := ⟨_, rfl⟩
  have bb10 : Below w9.heap.size w9 w10 := by rw [← hw10]; exact (Below.refl _ _).alloc (Nat.le_refl _) _
  have bF : Blk w10 F 31 #[.int .i64 1, .int .i64 0] := by rw [← hw10]; exact Blk.new' w9 F 31 _ hF
  have hB10 : Below N w w10 := hB9.trans (bb10.mono (by have := hB9.size; omega))
  have e10 := e9.below bb10 e9.lt
  have t10 := t9.bel bb10
  rw [eta_ex] at t10
  obtain ⟨q1, q2, q3, _, hat⟩ := t10.shape
  obtain ⟨g, o, s, r, rfl, _, _, y0, y1, y2, y3, hs, hr⟩ := hat 0 _ rfl
  cases q3
  obtain ⟨s1, s2, rfl, _⟩ := hs.shape
  obtain ⟨p1, p2, rfl, _, hat2⟩ := hr.shape
  obtain ⟨g', o', s', r', rfl, _, _, _, z1, z2, _, _, _⟩ := hat2 0 _ rfl
  have y0' : w10.cell? ⟨g, o, none⟩ = some (.slice s1 1 s2) := y0
  have y1' : w10.cell? ⟨g, o + 1, none⟩ = some (.int .i64 0) := y1
  have y2' : w10.cell? ⟨g, o + 2, none⟩ = some (.int .i64 1) := y2
  have y3' : w10.cell? ⟨g, o + 3, none⟩ = some (.slice (some ⟨g', o', none⟩) 1 p2) := y3
  have z1' : w10.cell? ⟨g', o' + 1, none⟩ = some (.int .i64 0) := z1
  have z2' : w10.cell? ⟨g', o' + 2, none⟩ = some (.int .i64 0) := z2
  have c0 := e10.cell 0
  have c3 := e10.cell 3
  have d0 := bF.cell 0
  have d1 := bF.cell 1
  have HW10 : Hid _ := hw10
  clear hw10 y0 y1 y2 y3 z1 z2 hat hat2 hs hr t10 t9 bb10 e9
  go_upto_region 4 with fail
  rw [HW10.out]
  clear HW10
  go_wp2
  go_ret
  exact ⟨rfl, hB10⟩

end Go.Proofs.Ytheokboggjnenaa
