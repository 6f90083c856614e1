/-
  The contract of the law's known: the chapter's example comes out as the chapter says.
-/
import Derived.Test.YthcncdihgghbjaaText
namespace Go.Proofs.Ythcncdihgghbjaa
open Go Go.RowKit Go.Shelf

def okT : Nat → Prop := fun _ => True
theorem Holds.t {w : World} {ok : Nat → Prop} {ts : List Ty} {v : Value} (h : Holds w ok ts v) : Holds w okT ts v := h.mono fun _ _ _ => trivial
/-- A slice of types that is built of values. -/
theorem holds_built (w : World) (B : Nat) (hB : w.heap.size = B) (ps : List (Value × Ty)) (e : TypeId) (hk : ∀ p ∈ ps, Holds w okT p.2.args p.1) (n : Nat) (hn : n = ps.length) (cs : Array Value) (hcs : cs = (pcells ps).toArray) : Holds (w.alloc (.cells cs e)) okT (ps.map (·.2)) (.slice (some ⟨B, 0, none⟩) n n) := by
  subst hcs
  subst hn
  have hb := Blk.new' w B e (pcells ps).toArray hB
  have hq : ∀ (i : Nat) (u : Ty), (ps.map (·.2))[i]? = some u → ∃ p : Value × Ty, ps[i]? = some p ∧ p.2 = u := by
    intro i u hi
    rw [List.getElem?_map] at hi
    exact Option.map_eq_some_iff.1 hi
  have := Holds.mk (w := w.alloc (.cells (pcells ps).toArray e)) (ok := okT) (ps.map (·.2)) (some ⟨B, 0, none⟩) ps.length (fun i => ((ps[i]?).map (·.1)).getD undef) (by simp) (fun h => by cases h)
    (fun i u hi => by
      obtain ⟨p, hp, rfl⟩ := hq i u hi
      obtain ⟨c0, c1⟩ := pcells_get ps i p hp
      refine ⟨B, 0, rfl, trivial, ?_, ?_⟩
      · rw [Nat.zero_add, hb.cell, List.getElem?_toArray, c0, hp]; rfl
      · rw [Nat.zero_add, hb.cell, List.getElem?_toArray, c1])
    (fun i u hi => by
      obtain ⟨p, hp, rfl⟩ := hq i u hi
      rw [hp]
      exact (hk p (List.mem_of_getElem? hp)).alloc _)
  rwa [List.length_map] at this

def tA : Ty := .mk [] 0
def tAB : Ty := .mk [tA] 1
def tK : Ty := .mk [tA, tAB] 1
def nsK : List ByteArray := [⟨#[97]⟩, ⟨#[98]⟩]

theorem textK : textOf nsK tK = .tuple #[.string ⟨#[97, 32, 45, 62, 32, 40, 97, 32, 45, 62, 32, 98, 41, 32, 45, 62, 32, 98]⟩, .int .i64 0] := by
  have h1 : rightB nsK.length tK = true := by decide
  have h2 : tK.text nsK = [97, 32, 45, 62, 32, 40, 97, 32, 45, 62, 32, 98, 41, 32, 45, 62, 32, 98] := by decide
  unfold textOf
  rw [if_pos h1, h2]

set_option maxRecDepth 100000 in
set_option maxHeartbeats 1600000 in
theorem known_calls (w : World) : Calls Try.prog 9 #[] w fun e w' => e = .returned (.bool true) ∧ Below w.heap.size w w' := by
  obtain ⟨N, hN⟩ : ∃ N, w.heap.size = N := ⟨_, rfl⟩
  rw [hN]
  go_enter Try.func9, Try.ntmps9
  go_wp2_with fail
  refine (kOf_calls 0 [] okT (.slice none 0 0) _ (Holds.nil _ _ _ _ (fun _ => rfl)) (by simp [sizeL])).mono ?_
  rintro e w1 ⟨v1, rfl, h1, hb1⟩
  rw [hN] at hb1
  obtain ⟨a1, c1, rfl, _⟩ := h1.shape
  have h1' := h1.t
  clear h1
  have hz1 := hb1.size
  rw [hN] at hz1
  go_wp2_with fail
  refine (kOf_calls 0 [] okT (.slice none 0 0) _ (Holds.nil _ _ _ _ (fun _ => rfl)) (by simp [sizeL])).mono ?_
  rintro e w2 ⟨v2, rfl, h2, hb2⟩
  obtain ⟨a2, c2, rfl, _⟩ := h2.shape
  have k1 := h1'.bel hb2
  have k2 := h2.t
  have bl2 : Below N w w2 := hb1.trans (hb2.mono hz1)
  clear h2 h1' hb1 hb2 hz1
  have hz2 := bl2.size
  rw [hN] at hz2
  obtain ⟨M2, hM2⟩ : ∃ M2, w2.heap.size = M2 := ⟨_, rfl⟩
  go_wp2_with fail
  generalize hw3 : w2.alloc (.cells #[.slice a2 0 c2, .int .i64 0] 29) = w3
  have h3 : Holds w3 okT [tA] (.slice (some ⟨M2, 0, none⟩) 1 1) := by
    rw [← hw3]
    exact holds_built w2 M2 hM2 [(.slice a2 0 c2, tA)] 29 (fun p hp => by rw [List.mem_singleton.1 hp]; exact k2) 1 rfl _ rfl
  have k3 : Holds w3 okT [] (.slice a1 0 c1) := by rw [← hw3]; exact k1.alloc _
  have bl3 : Below N w w3 := by rw [← hw3]; exact bl2.alloc (by omega) _
  have hz3 : N ≤ w3.heap.size := by rw [← hw3]; simp; omega
  clear hw3 k1 k2 bl2 hM2
  refine (kOf_calls 1 [tA] okT _ _ h3 (by decide)).mono ?_
  rintro e w4 ⟨v4, rfl, h4, hb4⟩
  obtain ⟨a4, c4, rfl, _⟩ := h4.shape
  have k4 := k3.bel hb4
  have k5 := h4.t
  have bl4 : Below N w w4 := bl3.trans (hb4.mono hz3)
  have hz4 := Nat.le_trans hz3 hb4.size
  clear h4 k3 h3 hb4 bl3 hz3 hz2
  obtain ⟨M4, hM4⟩ : ∃ M4, w4.heap.size = M4 := ⟨_, rfl⟩
  go_wp2_with fail
  generalize hw5 : w4.alloc (.cells #[.slice a1 0 c1, .int .i64 0, .slice a4 1 c4, .int .i64 1] 29) = w5
  have h5 : Holds w5 okT [tA, tAB] (.slice (some ⟨M4, 0, none⟩) 2 2) := by
    rw [← hw5]
    refine holds_built w4 M4 hM4 [(.slice a1 0 c1, tA), (.slice a4 1 c4, tAB)] 29 (fun p hp => ?_) 2 rfl _ rfl
    rcases List.mem_cons.1 hp with rfl | hp
    · exact k4
    · rw [List.mem_singleton.1 hp]; exact k5
  have bl5 : Below N w w5 := by rw [← hw5]; exact bl4.alloc (by omega) _
  have hz5 : N ≤ w5.heap.size := by rw [← hw5]; simp; omega
  clear hw5 k4 k5 bl4 hM4 hz4
  refine (kOf_calls 1 [tA, tAB] okT _ _ h5 (by decide)).mono ?_
  rintro e w6 ⟨v6, rfl, h6, hb6⟩
  obtain ⟨a6, c6, rfl, _⟩ := h6.shape
  have k6 := h6.t
  have bl6 : Below N w w6 := bl5.trans (hb6.mono hz5)
  have hz6 := Nat.le_trans hz5 hb6.size
  clear h6 h5 hb6 bl5 hz5
  obtain ⟨M6, hM6⟩ : ∃ M6, w6.heap.size = M6 := ⟨_, rfl⟩
  go_wp2_with fail
  generalize hw8 : (w6.alloc (.cells #[.slice a6 2 c6, .int .i64 1] 29)).alloc (.cells #[.string ⟨#[97]⟩, .string ⟨#[98]⟩] 9) = w8
  have b8 : Blk w8 M6 29 #[.slice a6 2 c6, .int .i64 1] := by rw [← hw8]; exact (Blk.new' _ M6 29 _ hM6).alloc _
  have n8 : Blk w8 (M6 + 1) 9 #[.string ⟨#[97]⟩, .string ⟨#[98]⟩] := by rw [← hw8]; exact Blk.new' _ (M6 + 1) 9 _ (by simp [hM6])
  have k8 : Holds w8 okT [tA, tAB] (.slice a6 2 c6) := by rw [← hw8]; exact (k6.alloc _).alloc _
  have bl8 : Below N w w8 := by rw [← hw8]; exact (bl6.alloc (by omega) _).alloc (by simp; omega) _
  have hz8 : N ≤ w8.heap.size := by have := bl8.size; omega
  clear hw8 k6 bl6 hM6 hz6
  have hT := Text_calls nsK (some ⟨M6 + 1, 0, none⟩) 2 tK okT (.slice a6 2 c6) w8 k8 (fun i s hi => by
    refine ⟨M6 + 1, 0, rfl, n8.lt, ?_⟩
    rw [Nat.zero_add, n8.cell]
    match i with
    | 0 => simp [nsK] at hi; subst hi; rfl
    | 1 => simp [nsK] at hi; subst hi; rfl
    | i + 2 => simp [nsK] at hi) (by decide) (fun _ => by decide)
  rw [textK] at hT
  change Calls Try.prog 30 #[.agg #[.slice a6 2 c6, .int .i64 1], .slice (some ⟨M6 + 1, 0, none⟩) 2 2] w8 _ at hT
  refine hT.mono ?_
  rintro e w9 ⟨rfl, hb9⟩
  have b9 := b8.below hb9 b8.lt
  have k9 := k8.bel hb9
  have bl9 : Below N w w9 := bl8.trans (hb9.mono hz8)
  have hz9 := Nat.le_trans hz8 hb9.size
  clear hT b8 n8 k8 bl8 hb9 hz8
  have c0 := b9.cell 0
  have c1 := b9.cell 1
  have hS := fun W (hW : Holds W okT [tA, tAB] (.slice a6 2 c6)) => kSize_calls tK okT (.slice a6 2 c6) W hW (by decide)
  have hO := fun W (hW : Holds W okT [tA, tAB] (.slice a6 2 c6)) => kOrder_calls tK okT (.slice a6 2 c6) W hW (by decide)
  have hD := fun W (hW : Holds W okT [tA, tAB] (.slice a6 2 c6)) => kDepth_calls tK okT (.slice a6 2 c6) W hW (by decide)
  rw [show (tK.size : Int) = 4 by decide] at hS
  rw [show (tK.depth : Int) - 1 = 2 by decide] at hO
  rw [show (tK.depth : Int) = 3 by decide] at hD
  change ∀ W : World, Holds W okT [tA, tAB] (.slice a6 2 c6) → Calls Try.prog 13 #[.agg #[.slice a6 2 c6, .int .i64 1]] W _ at hS
  change ∀ W : World, Holds W okT [tA, tAB] (.slice a6 2 c6) → Calls Try.prog 15 #[.agg #[.slice a6 2 c6, .int .i64 1]] W _ at hO
  change ∀ W : World, Holds W okT [tA, tAB] (.slice a6 2 c6) → Calls Try.prog 17 #[.agg #[.slice a6 2 c6, .int .i64 1]] W _ at hD
  go_wp2_with fail
  refine (hS _ k9).mono ?_
  rintro e x1 ⟨rfl, hb⟩
  have bx := b9.below hb b9.lt
  have kx := k9.bel hb
  have blx : Below N w x1 := bl9.trans (hb.mono hz9)
  have hzx := Nat.le_trans hz9 hb.size
  clear b9 k9 bl9 hb hz9 c0 c1 hS
  have c0 := bx.cell 0
  have c1 := bx.cell 1
  go_wp2_with fail
  refine (hO _ kx).mono ?_
  rintro e x2 ⟨rfl, hb⟩
  have by2 := bx.below hb bx.lt
  have ky := kx.bel hb
  have bly : Below N w x2 := blx.trans (hb.mono hzx)
  have hzy := Nat.le_trans hzx hb.size
  clear bx kx blx hb hzx c0 c1 hO
  have c0 := by2.cell 0
  have c1 := by2.cell 1
  go_wp2_with fail
  refine (hD _ ky).mono ?_
  rintro e x3 ⟨rfl, hb⟩
  go_wp2
  go_ret
  exact ⟨rfl, bly.trans (hb.mono hzy)⟩

end Go.Proofs.Ythcncdihgghbjaa
