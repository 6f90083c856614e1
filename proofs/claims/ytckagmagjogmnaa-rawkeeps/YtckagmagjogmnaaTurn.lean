/-
  Raw terms turned: what is told in the stead of each Bound index, plain; and the contracts of raw.turn and its closure, over what is called of indexes.
-/
import Derived.Test.YtckagmagjogmnaaRemakeT
import Derived.Test.YtckagmagjogmnaaMade
import Derived.Test.YtckagmagjogmnaaLooseR
namespace Go.Proofs.Ytckagmagjogmnaa
open Go Go.RowKit

theorem holds_other {w : World} {N g : Nat} {ts : List Ty} {v : Value} (h : Holds w (fun b => b < N) ts v) (hg : N ≤ g) (i : Nat) (x : Value) : Holds (w.setCell ⟨g, i, none⟩ x) (fun b => b < N) ts v :=
  h.keep fun b _ ho => ⟨Below.heap_setCell w ⟨g, i, none⟩ x b (show b ≠ g by omega), ho⟩
theorem holdsR_other {w : World} {N g : Nat} {ts : List Rw} {v : Value} (h : HoldsR w (fun b => b < N) ts v) (hg : N ≤ g) (i : Nat) (x : Value) : HoldsR (w.setCell ⟨g, i, none⟩ x) (fun b => b < N) ts v :=
  h.keep fun b _ ho => ⟨Below.heap_setCell w ⟨g, i, none⟩ x b (show b ≠ g by omega), ho⟩
mutual
/-- a raw term turned, within so many binders -/
def Rw.turn (g : Int → Nat → Rw) (b : Nat) : Rw → Rw
  | .mk k t i l => if k = 0 then g i b else .mk k t i (turnL g (inR k b) l)
def turnL (g : Int → Nat → Rw) (b : Nat) : List Rw → List Rw
  | [] => []
  | t :: r => t.turn g b :: turnL g b r
end
theorem Rw.turn_eq (g : Int → Nat → Rw) (b : Nat) (t : Rw) : t.turn g b = if t.kind = 0 then g t.idx b else .mk t.kind t.ty t.idx (turnL g (inR t.kind b) t.kids) := by cases t; rfl
theorem turnL_map (g : Int → Nat → Rw) (b : Nat) (l : List Rw) : turnL g b l = l.map (Rw.turn g b) := by
  induction l with
  | nil => rfl
  | cons t r ih => simp [turnL, ih]
theorem inR_le (k : Int) (b : Nat) : inR k b ≤ b + 1 := by unfold inR; split <;> omega
/-- What is called of an index within so many binders. -/
def GAt (f : Nat) (caps : Array Value) (W : World) (g : Int → Nat → Rw) : Prop := ∀ (i : Int) (b : Nat) (cur : World), Only [] W cur → b ≤ 2000000 → Calls Try.prog f (#[.int .i64 i, .int .i64 (b : Int)] ++ caps) cur (Made [] cur (g i b))
/-- turn's own word of one raw term -/
def TurnAt (f : Nat) (caps : Array Value) (W : World) (g : Int → Nat → Rw) (u : Rw) : Prop := ∀ (b : Nat) (ok : Nat → Prop) (sb sr : Value) (cur : World), Only [] W cur → b + u.size ≤ 2000000 → Holds cur ok u.ty.args sb → HoldsR cur ok u.kids sr →
    Calls Try.prog 96 #[rwv u.kind sb u.ty.base u.idx sr, .int .i64 (b : Int), .func (.func f) #[] caps] cur (Made [] cur (u.turn g b))

set_option maxRecDepth 100000 in
set_option maxHeartbeats 1600000 in
theorem turn1_calls (f : Nat) (caps : Array Value) (W : World) (g : Int → Nat → Rw) (u : Rw) (hI : TurnAt f caps W g u) (b A B : Nat) (ok : Nat → Prop) (sb sr : Value) (w : World) (hW : Only [] W w) (hbu : b + u.size ≤ 2000000) (h1 : Blk w A 3 #[.int .i64 (b : Int)]) (h2 : Blk w B 51 #[.func (.func f) #[] caps]) (hb : Holds w ok u.ty.args sb) (ha : HoldsR w ok u.kids sr) :
    Calls Try.prog 106 #[rwv u.kind sb u.ty.base u.idx sr, .pointer (some ⟨A, 0, none⟩), .pointer (some ⟨B, 0, none⟩)] w (Made [] w (u.turn g b)) := by
  obtain ⟨x1, x2, hx, _⟩ := hb.shape
  obtain ⟨x3, x4, hx', _⟩ := ha.shape
  obtain ⟨N, hN⟩ : ∃ N, w.heap.size = N := ⟨_, rfl⟩
  generalize u.ty.args.length = n1 at hx
  generalize u.kids.length = n2 at hx'
  subst hx hx'
  obtain ⟨W0, hW0⟩ : ∃ W0, (w.alloc (.cells #[.int .i64 u.kind, .slice x1 n1 x2, .int .i64 u.ty.base, .int .i64 u.idx, .slice x3 n2 x4] 35)).alloc (.cells #[.int .i64 0, .slice none 0 0, .int .i64 0, .int .i64 0, .slice none 0 0] 35) = W0 := ⟨_, rfl⟩
  have b0 : Blk W0 N 35 #[.int .i64 u.kind, .slice x1 n1 x2, .int .i64 u.ty.base, .int .i64 u.idx, .slice x3 n2 x4] := by rw [← hW0]; exact (Blk.new' w N 35 _ hN).alloc _
  have b1 : Blk W0 (N + 1) 35 #[.int .i64 0, .slice none 0 0, .int .i64 0, .int .i64 0, .slice none 0 0] := by rw [← hW0]; exact Blk.new' _ (N + 1) 35 _ (by simp [hN])
  have bl : Below N w W0 := by rw [← hW0]; exact ((Below.refl N w).alloc (by omega) _).alloc (by simp; omega) _
  have hO0 : Only [] w W0 := Only.of_below' (by rw [hN]; exact bl)
  have hcall := hI b ok _ _ W0 (hW.trans hO0) hbu (hb.bel (hN ▸ bl)) (ha.bel (hN ▸ bl))
  have c0 := b0.cell 0
  have c1 := b0.cell 1
  have c2 := b0.cell 2
  have c3 := b0.cell 3
  have c4 := b0.cell 4
  have p1 := (h1.only hO0 (by simp)).cell 0
  have p2 := (h2.only hO0 (by simp)).cell 0
  have hz : W0.heap.size = N + 2 := by rw [← hW0]; simp [hN]
  have HW : Hid _ := hW0
  obtain ⟨v, hv⟩ : ∃ v, u.turn g b = v := ⟨_, rfl⟩
  rw [hv] at hcall ⊢
  clear hW0 hb ha h1 h2 hv hI
  go_enter Try.func106, Try.ntmps106
  go_upto_region 1 with fail
  rw [HW.out]
  clear HW
  go_wp2_with fail
  refine hcall.mono ?_
  rintro e w1 ⟨vb, vr, rfl, hvb, hvr, hO1⟩
  obtain ⟨u1, u2, rfl, _⟩ := hvb.shape
  obtain ⟨u3, u4, rfl, _⟩ := hvr.shape
  generalize v.ty.args.length = m1 at *
  generalize v.kids.length = m2 at *
  have m9 := b1.only hO1 (by simp)
  have hO2 : Only [] w w1 := hO0.trans hO1
  have hg9 : w.heap.size ≤ N + 1 := by omega
  clear hcall c0 c1 c2 c3 c4 p1 p2
  have e0 := m9.cell 0
  have e1 := m9.cell 1
  have e2 := m9.cell 2
  have e3 := m9.cell 3
  have e4 := m9.cell 4
  have f0 := m9.frozen 0
  have f1 := m9.frozen 1
  have f2 := m9.frozen 2
  have f3 := m9.frozen 3
  have f4 := m9.frozen 4
  have h5 := holds_set5 (g := N + 1) (ok' := fun b => w.heap.size ≤ b) hvb (fun b _ h => ⟨by omega, by omega⟩) (.int .i64 v.kind) (.slice u1 m1 u2) (.int .i64 v.ty.base) (.int .i64 v.idx) (.slice u3 m2 u4)
  have h6 := holdsR_set5 (g := N + 1) (ok' := fun b => w.heap.size ≤ b) hvr (fun b _ h => ⟨by omega, by omega⟩) (.int .i64 v.kind) (.slice u1 m1 u2) (.int .i64 v.ty.base) (.int .i64 v.idx) (.slice u3 m2 u4)
  have b5 := (((((m9.set 0 (.int .i64 v.kind)).set 1 (.slice u1 m1 u2)).set 2 (.int .i64 v.ty.base)).set 3 (.int .i64 v.idx)).set 4 (.slice u3 m2 u4))
  have hO5 := (((((hO2.setNew hg9 0 (.int .i64 v.kind)).setNew hg9 1 (.slice u1 m1 u2)).setNew hg9 2 (.int .i64 v.ty.base)).setNew hg9 3 (.int .i64 v.idx)).setNew hg9 4 (.slice u3 m2 u4))
  go_wp2
  generalize (((((w1.setCell ⟨N + 1, 0, none⟩ (.int .i64 v.kind)).setCell ⟨N + 1, 1, none⟩ (.slice u1 m1 u2)).setCell ⟨N + 1, 2, none⟩ (.int .i64 v.ty.base)).setCell ⟨N + 1, 3, none⟩ (.int .i64 v.idx)).setCell ⟨N + 1, 4, none⟩ (.slice u3 m2 u4)) = W5 at *
  have g0 : W5.cell? ⟨N + 1, 0, none⟩ = some (.int .i64 v.kind) := b5.cell 0
  have g1 : W5.cell? ⟨N + 1, 1, none⟩ = some (.slice u1 m1 u2) := b5.cell 1
  have g2 : W5.cell? ⟨N + 1, 2, none⟩ = some (.int .i64 v.ty.base) := b5.cell 2
  have g3 : W5.cell? ⟨N + 1, 3, none⟩ = some (.int .i64 v.idx) := b5.cell 3
  have g4 : W5.cell? ⟨N + 1, 4, none⟩ = some (.slice u3 m2 u4) := b5.cell 4
  exact bodyPost_ret (v := rwv v.kind (.slice u1 m1 u2) v.ty.base v.idx (.slice u3 m2 u4)) (by simp [results, Try.results106, go_sem, g0, g1, g2, g3, g4]) rfl ⟨_, _, rfl, h5, h6, hO5⟩

set_option maxRecDepth 100000 in
set_option maxHeartbeats 3200000 in
theorem turn107_calls (caps1 : Value) (W : World) (g : Int → Nat → Rw) (hG : GAt 107 #[caps1] W g) (t : Rw) : t.fit → TurnAt 107 #[caps1] W g t := by
  induction t using Rw.ind with
  | h t ih =>
  intro hfit b ok sb sr w hWw hbs hb ha
  rw [t.fit_eq, fitR_iff] at hfit
  obtain ⟨hf1, hf2, hf3⟩ := hfit
  have hIH : Hid (∀ u ∈ t.kids, TurnAt 107 #[caps1] W g u) := fun u hu => ih u hu (hf3 u hu)
  have hte := t.turn_eq g b
  have hsz := t.size_eq
  have HSZ : Hid (∀ u ∈ t.kids, inR t.kind b + u.size ≤ 2000000) := fun u hu => by have h1 := rsize_mem hu; have h2 := inR_le t.kind b; omega
  clear ih hf3
  obtain ⟨x1, x2, hx, _⟩ := hb.shape
  obtain ⟨x3, x4, hx', _⟩ := ha.shape
  obtain ⟨N, hN⟩ : ∃ N, w.heap.size = N := ⟨_, rfl⟩
  generalize t.ty.args.length = n1 at hx
  obtain ⟨n2, hn2⟩ : ∃ n, t.kids.length = n := ⟨_, rfl⟩
  rw [hn2] at hx'
  subst hx hx'
  obtain ⟨k, hk⟩ : ∃ k, t.kind = k := ⟨_, rfl⟩
  obtain ⟨W0, hW0⟩ : ∃ W0, (((w.alloc (.cells #[.int .i64 k, .slice x1 n1 x2, .int .i64 t.ty.base, .int .i64 t.idx, .slice x3 n2 x4] 35)).alloc (.cells #[.int .i64 (b : Int)] 3)).alloc (.cells #[.func (.func 107) #[] #[caps1]] 51)).alloc (.cells #[.int .i64 0, .slice none 0 0, .int .i64 0, .int .i64 0, .slice none 0 0] 35) = W0 := ⟨_, rfl⟩
  have b0 : Blk W0 N 35 #[.int .i64 k, .slice x1 n1 x2, .int .i64 t.ty.base, .int .i64 t.idx, .slice x3 n2 x4] := by rw [← hW0]; exact (((Blk.new' w N 35 _ hN).alloc _).alloc _).alloc _
  have b1 : Blk W0 (N + 1) 3 #[.int .i64 (b : Int)] := by rw [← hW0]; exact ((Blk.new' _ (N + 1) 3 _ (by simp [hN])).alloc _).alloc _
  have b2 : Blk W0 (N + 2) 51 #[.func (.func 107) #[] #[caps1]] := by rw [← hW0]; exact (Blk.new' _ (N + 2) 51 _ (by simp [hN])).alloc _
  have b3 : Blk W0 (N + 3) 35 #[.int .i64 0, .slice none 0 0, .int .i64 0, .int .i64 0, .slice none 0 0] := by rw [← hW0]; exact Blk.new' _ (N + 3) 35 _ (by simp [hN])
  have bl : Below N w W0 := by rw [← hW0]; exact ((((Below.refl N w).alloc (by omega) _).alloc (by simp; omega) _).alloc (by simp; omega) _).alloc (by simp; omega) _
  have hO0 : Only [] w W0 := Only.of_below' (by rw [hN]; exact bl)
  have hz : W0.heap.size = N + 4 := by rw [← hW0]; simp [hN]
  have hb0 : Holds W0 (fun b => b < N) t.ty.args (.slice x1 n1 x2) := (hb.mono (ok' := fun b => b < N) fun b h _ => by omega).bel (hN ▸ bl)
  have ha0 : HoldsR W0 (fun b => b < N) t.kids (.slice x3 n2 x4) := (ha.mono (ok' := fun b => b < N) fun b h _ => by omega).bel (hN ▸ bl)
  have c0 := b0.cell 0
  have c1 := b0.cell 1
  have c2 := b0.cell 2
  have c3 := b0.cell 3
  have c4 := b0.cell 4
  have d0 := b1.cell 0
  have e0 := b2.cell 0
  have HW : Hid _ := hW0
  have hg9 : w.heap.size ≤ N + 3 := by omega
  have HK : Hid (t.kind = k) := hk
  rw [hk] at hte HSZ
  clear hW0 hb ha
  by_cases h0 : k = 0
  · subst h0
    rw [if_pos rfl] at hte
    have hcall := hG t.idx b W0 (hWw.trans hO0) (by omega)
    rw [hte]
    obtain ⟨v, hv⟩ : ∃ v, g t.idx b = v := ⟨_, rfl⟩
    rw [hv] at hcall ⊢
    rw [hk]
    clear hte hv hk HK
    go_enter Try.func96, Try.ntmps96
    go_upto_region 1 with fail
    rw [HW.out]
    clear HW
    go_wp2_with fail
    refine hcall.mono ?_
    rintro e w1 ⟨vb, vr, rfl, hvb, hvr, hO1⟩
    obtain ⟨u1, u2, rfl, _⟩ := hvb.shape
    obtain ⟨u3, u4, rfl, _⟩ := hvr.shape
    generalize v.ty.args.length = m1 at *
    generalize v.kids.length = m2 at *
    have m9 := b3.only hO1 (by simp)
    have hO2 : Only [] w w1 := hO0.trans hO1
    clear hcall c0 c1 c2 c3 c4 d0 e0
    have e0 := m9.cell 0
    have e1 := m9.cell 1
    have e2 := m9.cell 2
    have e3 := m9.cell 3
    have e4 := m9.cell 4
    have f0 := m9.frozen 0
    have f1 := m9.frozen 1
    have f2 := m9.frozen 2
    have f3 := m9.frozen 3
    have f4 := m9.frozen 4
    have h5 := holds_set5 (g := N + 3) (ok' := fun b => w.heap.size ≤ b) hvb (fun b _ h => ⟨by omega, by omega⟩) (.int .i64 v.kind) (.slice u1 m1 u2) (.int .i64 v.ty.base) (.int .i64 v.idx) (.slice u3 m2 u4)
    have h6 := holdsR_set5 (g := N + 3) (ok' := fun b => w.heap.size ≤ b) hvr (fun b _ h => ⟨by omega, by omega⟩) (.int .i64 v.kind) (.slice u1 m1 u2) (.int .i64 v.ty.base) (.int .i64 v.idx) (.slice u3 m2 u4)
    have b5 := (((((m9.set 0 (.int .i64 v.kind)).set 1 (.slice u1 m1 u2)).set 2 (.int .i64 v.ty.base)).set 3 (.int .i64 v.idx)).set 4 (.slice u3 m2 u4))
    have hO5 := (((((hO2.setNew hg9 0 (.int .i64 v.kind)).setNew hg9 1 (.slice u1 m1 u2)).setNew hg9 2 (.int .i64 v.ty.base)).setNew hg9 3 (.int .i64 v.idx)).setNew hg9 4 (.slice u3 m2 u4))
    go_wp2
    generalize (((((w1.setCell ⟨N + 3, 0, none⟩ (.int .i64 v.kind)).setCell ⟨N + 3, 1, none⟩ (.slice u1 m1 u2)).setCell ⟨N + 3, 2, none⟩ (.int .i64 v.ty.base)).setCell ⟨N + 3, 3, none⟩ (.int .i64 v.idx)).setCell ⟨N + 3, 4, none⟩ (.slice u3 m2 u4)) = W5 at *
    have g0 : W5.cell? ⟨N + 3, 0, none⟩ = some (.int .i64 v.kind) := b5.cell 0
    have g1 : W5.cell? ⟨N + 3, 1, none⟩ = some (.slice u1 m1 u2) := b5.cell 1
    have g2 : W5.cell? ⟨N + 3, 2, none⟩ = some (.int .i64 v.ty.base) := b5.cell 2
    have g3 : W5.cell? ⟨N + 3, 3, none⟩ = some (.int .i64 v.idx) := b5.cell 3
    have g4 : W5.cell? ⟨N + 3, 4, none⟩ = some (.slice u3 m2 u4) := b5.cell 4
    exact bodyPost_ret (v := rwv v.kind (.slice u1 m1 u2) v.ty.base v.idx (.slice u3 m2 u4)) (by simp [results, Try.results96, go_sem, g0, g1, g2, g3, g4]) rfl ⟨_, _, rfl, h5, h6, hO5⟩
  · have z0 : (k == 0) = false := by simp [h0]
    rw [if_neg h0] at hte
    have hcall := within_calls k t.ty.base t.idx x1 n1 x2 x3 n2 x4 b (by omega) W0
    obtain ⟨M, hM⟩ : ∃ M, inR k b = M := ⟨_, rfl⟩
    rw [hM] at hcall hte HSZ
    have HTE : Hid (t.turn g b = .mk t.kind t.ty t.idx (turnL g M t.kids)) := by show _ = _; rw [hte, HK.out]
    rw [hk]
    clear h0 hM hte hk
    go_enter Try.func96, Try.ntmps96
    go_upto_region 1 with fail
    rw [HW.out]
    clear HW
    go_wp2_with fail
    refine hcall.mono ?_
    rintro e w1 ⟨rfl, hb1⟩
    have k0 := b0.below hb1 b0.lt
    have k1 := b1.below hb1 b1.lt
    have k2 := b2.below hb1 b2.lt
    have k3 := b3.below hb1 b3.lt
    have hO1 : Only [] w w1 := hO0.trans (Only.of_below' hb1)
    have hb1' := hb0.bel hb1
    have ha1' := ha0.bel hb1
    clear hcall c0 c1 c2 c3 c4 d0 e0 b0 b1 b2 b3 hb0 ha0
    have hs1 := hb1.size
    have d0 := k1.cell 0
    have f0 := k1.frozen 0
    have hg8 : w.heap.size ≤ N + 1 := by omega
    have l0 := k0.other (B' := N + 1) (by omega) 0 (.int .i64 (M : Int))
    have l1 := k1.set 0 (.int .i64 (M : Int))
    have l2 := k2.other (B' := N + 1) (by omega) 0 (.int .i64 (M : Int))
    have l3 := k3.other (B' := N + 1) (by omega) 0 (.int .i64 (M : Int))
    have hO2 := hO1.setNew hg8 0 (.int .i64 (M : Int))
    have hbk := holds_other hb1' (g := N + 1) (by omega) 0 (.int .i64 (M : Int))
    have hak := holdsR_other ha1' (g := N + 1) (by omega) 0 (.int .i64 (M : Int))
    have hz2 : N + 4 ≤ (w1.setCell ⟨N + 1, 0, none⟩ (.int .i64 (M : Int))).heap.size := by have := l3.lt; omega
    obtain ⟨W2, hW2⟩ : ∃ W2, w1.setCell ⟨N + 1, 0, none⟩ (.int .i64 (M : Int)) = W2 := ⟨_, rfl⟩
    rw [hW2] at l0 l1 l2 l3 hO2 hbk hak hz2
    have HW2 : Hid _ := hW2
    have hcall := remakeT_calls t (fun b => b < N) _ _ (.pointer (some ⟨N + 1, 0, none⟩)) (.pointer (some ⟨N + 2, 0, none⟩)) W2 [] (fun outs _ => outs = (t.kids.take outs.length).map (Rw.turn g M)) hbk hak (fun b _ => by simp) (fun b h => by cases h) hf1 hf2 rfl (fun _ _ _ h _ => h)
      (by
        intro outs u ok' sb' sr' cur hu hP hOc h1 h2 _
        have hum := List.mem_of_getElem? hu
        refine (turn1_calls 107 #[caps1] W g u (hIH.out u hum) M (N + 1) (N + 2) ok' sb' sr' cur ((hWw.trans hO2).trans hOc) (HSZ.out u hum) (l1.only hOc (by simp)) (l2.only hOc (by simp)) h1 h2).mono fun e w' h => ⟨u.turn g M, h, ?_⟩
        show outs ++ [u.turn g M] = (t.kids.take (outs ++ [u.turn g M]).length).map (Rw.turn g M)
        rw [List.length_append, List.length_singleton, List.take_add_one, hu, List.map_append, ← hP]; rfl)
    rw [HK.out] at hcall
    have HN2 : Hid (t.kids.length = n2) := hn2
    rw [hn2] at hcall
    clear hW2 hb1' ha1' hbk hak k0 k1 k2 k3 hb1 hn2
    go_upto_region 4 with fail
    rw [HW2.out]
    clear HW2 d0 f0
    have c0 := l0.cell 0
    have c1 := l0.cell 1
    have c2 := l0.cell 2
    have c3 := l0.cell 3
    have c4 := l0.cell 4
    go_wp2_with fail
    refine hcall.mono ?_
    rintro e w3 ⟨outs, ho1, ⟨vb, vr, he, hvb, hvr, hO3⟩, ho2⟩
    have hos : outs = turnL g M t.kids := by rw [turnL_map]; rw [ho1, ← HN2.out, List.take_length] at ho2; exact ho2
    subst hos
    have he' : e = .returned (rwv k vb t.ty.base t.idx vr) := by rw [he, HK.out]; rfl
    subst he'
    have hvb : Holds w3 (fun b => W2.heap.size ≤ b) t.ty.args vb := hvb
    have hvr : HoldsR w3 (fun b => W2.heap.size ≤ b) (turnL g M t.kids) vr := hvr
    obtain ⟨u1, u2, rfl, _⟩ := hvb.shape
    obtain ⟨u3, u4, rfl, _⟩ := hvr.shape
    generalize turnL g M t.kids = tk at *
    generalize t.ty.args.length = m1 at *
    generalize tk.length = m2 at *
    have m9 := l3.only hO3 (by simp)
    have hO4 : Only [] w w3 := hO2.trans hO3
    clear hcall c0 c1 c2 c3 c4 he ho1 ho2 l0 l1 l2 l3
    have e0 := m9.cell 0
    have e1 := m9.cell 1
    have e2 := m9.cell 2
    have e3 := m9.cell 3
    have e4 := m9.cell 4
    have f0 := m9.frozen 0
    have f1 := m9.frozen 1
    have f2 := m9.frozen 2
    have f3 := m9.frozen 3
    have f4 := m9.frozen 4
    have h5 := holds_set5 (g := N + 3) (ok' := fun b => w.heap.size ≤ b) hvb (fun b _ h => ⟨by omega, by omega⟩) (.int .i64 k) (.slice u1 m1 u2) (.int .i64 t.ty.base) (.int .i64 t.idx) (.slice u3 m2 u4)
    have h6 := holdsR_set5 (g := N + 3) (ok' := fun b => w.heap.size ≤ b) hvr (fun b _ h => ⟨by omega, by omega⟩) (.int .i64 k) (.slice u1 m1 u2) (.int .i64 t.ty.base) (.int .i64 t.idx) (.slice u3 m2 u4)
    have b5 := (((((m9.set 0 (.int .i64 k)).set 1 (.slice u1 m1 u2)).set 2 (.int .i64 t.ty.base)).set 3 (.int .i64 t.idx)).set 4 (.slice u3 m2 u4))
    have hO5 := (((((hO4.setNew hg9 0 (.int .i64 k)).setNew hg9 1 (.slice u1 m1 u2)).setNew hg9 2 (.int .i64 t.ty.base)).setNew hg9 3 (.int .i64 t.idx)).setNew hg9 4 (.slice u3 m2 u4))
    go_wp2
    generalize (((((w3.setCell ⟨N + 3, 0, none⟩ (.int .i64 k)).setCell ⟨N + 3, 1, none⟩ (.slice u1 m1 u2)).setCell ⟨N + 3, 2, none⟩ (.int .i64 t.ty.base)).setCell ⟨N + 3, 3, none⟩ (.int .i64 t.idx)).setCell ⟨N + 3, 4, none⟩ (.slice u3 m2 u4)) = W5 at *
    have g0 : W5.cell? ⟨N + 3, 0, none⟩ = some (.int .i64 k) := b5.cell 0
    have g1 : W5.cell? ⟨N + 3, 1, none⟩ = some (.slice u1 m1 u2) := b5.cell 1
    have g2 : W5.cell? ⟨N + 3, 2, none⟩ = some (.int .i64 t.ty.base) := b5.cell 2
    have g3 : W5.cell? ⟨N + 3, 3, none⟩ = some (.int .i64 t.idx) := b5.cell 3
    have g4 : W5.cell? ⟨N + 3, 4, none⟩ = some (.slice u3 m2 u4) := b5.cell 4
    exact bodyPost_ret (v := rwv k (.slice u1 m1 u2) t.ty.base t.idx (.slice u3 m2 u4)) (by simp [results, Try.results96, go_sem, g0, g1, g2, g3, g4]) rfl (by rw [HTE.out, HK.out]; exact ⟨_, _, rfl, h5, h6, hO5⟩)

set_option maxRecDepth 100000 in
set_option maxHeartbeats 3200000 in
theorem turn97_calls (caps1 : Value) (W : World) (g : Int → Nat → Rw) (hG : GAt 97 #[caps1] W g) (t : Rw) : t.fit → TurnAt 97 #[caps1] W g t := by
  induction t using Rw.ind with
  | h t ih =>
  intro hfit b ok sb sr w hWw hbs hb ha
  rw [t.fit_eq, fitR_iff] at hfit
  obtain ⟨hf1, hf2, hf3⟩ := hfit
  have hIH : Hid (∀ u ∈ t.kids, TurnAt 97 #[caps1] W g u) := fun u hu => ih u hu (hf3 u hu)
  have hte := t.turn_eq g b
  have hsz := t.size_eq
  have HSZ : Hid (∀ u ∈ t.kids, inR t.kind b + u.size ≤ 2000000) := fun u hu => by have h1 := rsize_mem hu; have h2 := inR_le t.kind b; omega
  clear ih hf3
  obtain ⟨x1, x2, hx, _⟩ := hb.shape
  obtain ⟨x3, x4, hx', _⟩ := ha.shape
  obtain ⟨N, hN⟩ : ∃ N, w.heap.size = N := ⟨_, rfl⟩
  generalize t.ty.args.length = n1 at hx
  obtain ⟨n2, hn2⟩ : ∃ n, t.kids.length = n := ⟨_, rfl⟩
  rw [hn2] at hx'
  subst hx hx'
  obtain ⟨k, hk⟩ : ∃ k, t.kind = k := ⟨_, rfl⟩
  obtain ⟨W0, hW0⟩ : ∃ W0, (((w.alloc (.cells #[.int .i64 k, .slice x1 n1 x2, .int .i64 t.ty.base, .int .i64 t.idx, .slice x3 n2 x4] 35)).alloc (.cells #[.int .i64 (b : Int)] 3)).alloc (.cells #[.func (.func 97) #[] #[caps1]] 51)).alloc (.cells #[.int .i64 0, .slice none 0 0, .int .i64 0, .int .i64 0, .slice none 0 0] 35) = W0 := ⟨_, rfl⟩
  have b0 : Blk W0 N 35 #[.int .i64 k, .slice x1 n1 x2, .int .i64 t.ty.base, .int .i64 t.idx, .slice x3 n2 x4] := by rw [← hW0]; exact (((Blk.new' w N 35 _ hN).alloc _).alloc _).alloc _
  have b1 : Blk W0 (N + 1) 3 #[.int .i64 (b : Int)] := by rw [← hW0]; exact ((Blk.new' _ (N + 1) 3 _ (by simp [hN])).alloc _).alloc _
  have b2 : Blk W0 (N + 2) 51 #[.func (.func 97) #[] #[caps1]] := by rw [← hW0]; exact (Blk.new' _ (N + 2) 51 _ (by simp [hN])).alloc _
  have b3 : Blk W0 (N + 3) 35 #[.int .i64 0, .slice none 0 0, .int .i64 0, .int .i64 0, .slice none 0 0] := by rw [← hW0]; exact Blk.new' _ (N + 3) 35 _ (by simp [hN])
  have bl : Below N w W0 := by rw [← hW0]; exact ((((Below.refl N w).alloc (by omega) _).alloc (by simp; omega) _).alloc (by simp; omega) _).alloc (by simp; omega) _
  have hO0 : Only [] w W0 := Only.of_below' (by rw [hN]; exact bl)
  have hz : W0.heap.size = N + 4 := by rw [← hW0]; simp [hN]
  have hb0 : Holds W0 (fun b => b < N) t.ty.args (.slice x1 n1 x2) := (hb.mono (ok' := fun b => b < N) fun b h _ => by omega).bel (hN ▸ bl)
  have ha0 : HoldsR W0 (fun b => b < N) t.kids (.slice x3 n2 x4) := (ha.mono (ok' := fun b => b < N) fun b h _ => by omega).bel (hN ▸ bl)
  have c0 := b0.cell 0
  have c1 := b0.cell 1
  have c2 := b0.cell 2
  have c3 := b0.cell 3
  have c4 := b0.cell 4
  have d0 := b1.cell 0
  have e0 := b2.cell 0
  have HW : Hid _ := hW0
  have hg9 : w.heap.size ≤ N + 3 := by omega
  have HK : Hid (t.kind = k) := hk
  rw [hk] at hte HSZ
  clear hW0 hb ha
  by_cases h0 : k = 0
  · subst h0
    rw [if_pos rfl] at hte
    have hcall := hG t.idx b W0 (hWw.trans hO0) (by omega)
    rw [hte]
    obtain ⟨v, hv⟩ : ∃ v, g t.idx b = v := ⟨_, rfl⟩
    rw [hv] at hcall ⊢
    rw [hk]
    clear hte hv hk HK
    go_enter Try.func96, Try.ntmps96
    go_upto_region 1 with fail
    rw [HW.out]
    clear HW
    go_wp2_with fail
    refine hcall.mono ?_
    rintro e w1 ⟨vb, vr, rfl, hvb, hvr, hO1⟩
    obtain ⟨u1, u2, rfl, _⟩ := hvb.shape
    obtain ⟨u3, u4, rfl, _⟩ := hvr.shape
    generalize v.ty.args.length = m1 at *
    generalize v.kids.length = m2 at *
    have m9 := b3.only hO1 (by simp)
    have hO2 : Only [] w w1 := hO0.trans hO1
    clear hcall c0 c1 c2 c3 c4 d0 e0
    have e0 := m9.cell 0
    have e1 := m9.cell 1
    have e2 := m9.cell 2
    have e3 := m9.cell 3
    have e4 := m9.cell 4
    have f0 := m9.frozen 0
    have f1 := m9.frozen 1
    have f2 := m9.frozen 2
    have f3 := m9.frozen 3
    have f4 := m9.frozen 4
    have h5 := holds_set5 (g := N + 3) (ok' := fun b => w.heap.size ≤ b) hvb (fun b _ h => ⟨by omega, by omega⟩) (.int .i64 v.kind) (.slice u1 m1 u2) (.int .i64 v.ty.base) (.int .i64 v.idx) (.slice u3 m2 u4)
    have h6 := holdsR_set5 (g := N + 3) (ok' := fun b => w.heap.size ≤ b) hvr (fun b _ h => ⟨by omega, by omega⟩) (.int .i64 v.kind) (.slice u1 m1 u2) (.int .i64 v.ty.base) (.int .i64 v.idx) (.slice u3 m2 u4)
    have b5 := (((((m9.set 0 (.int .i64 v.kind)).set 1 (.slice u1 m1 u2)).set 2 (.int .i64 v.ty.base)).set 3 (.int .i64 v.idx)).set 4 (.slice u3 m2 u4))
    have hO5 := (((((hO2.setNew hg9 0 (.int .i64 v.kind)).setNew hg9 1 (.slice u1 m1 u2)).setNew hg9 2 (.int .i64 v.ty.base)).setNew hg9 3 (.int .i64 v.idx)).setNew hg9 4 (.slice u3 m2 u4))
    go_wp2
    generalize (((((w1.setCell ⟨N + 3, 0, none⟩ (.int .i64 v.kind)).setCell ⟨N + 3, 1, none⟩ (.slice u1 m1 u2)).setCell ⟨N + 3, 2, none⟩ (.int .i64 v.ty.base)).setCell ⟨N + 3, 3, none⟩ (.int .i64 v.idx)).setCell ⟨N + 3, 4, none⟩ (.slice u3 m2 u4)) = W5 at *
    have g0 : W5.cell? ⟨N + 3, 0, none⟩ = some (.int .i64 v.kind) := b5.cell 0
    have g1 : W5.cell? ⟨N + 3, 1, none⟩ = some (.slice u1 m1 u2) := b5.cell 1
    have g2 : W5.cell? ⟨N + 3, 2, none⟩ = some (.int .i64 v.ty.base) := b5.cell 2
    have g3 : W5.cell? ⟨N + 3, 3, none⟩ = some (.int .i64 v.idx) := b5.cell 3
    have g4 : W5.cell? ⟨N + 3, 4, none⟩ = some (.slice u3 m2 u4) := b5.cell 4
    exact bodyPost_ret (v := rwv v.kind (.slice u1 m1 u2) v.ty.base v.idx (.slice u3 m2 u4)) (by simp [results, Try.results96, go_sem, g0, g1, g2, g3, g4]) rfl ⟨_, _, rfl, h5, h6, hO5⟩
  · have z0 : (k == 0) = false := by simp [h0]
    rw [if_neg h0] at hte
    have hcall := within_calls k t.ty.base t.idx x1 n1 x2 x3 n2 x4 b (by omega) W0
    obtain ⟨M, hM⟩ : ∃ M, inR k b = M := ⟨_, rfl⟩
    rw [hM] at hcall hte HSZ
    have HTE : Hid (t.turn g b = .mk t.kind t.ty t.idx (turnL g M t.kids)) := by show _ = _; rw [hte, HK.out]
    rw [hk]
    clear h0 hM hte hk
    go_enter Try.func96, Try.ntmps96
    go_upto_region 1 with fail
    rw [HW.out]
    clear HW
    go_wp2_with fail
    refine hcall.mono ?_
    rintro e w1 ⟨rfl, hb1⟩
    have k0 := b0.below hb1 b0.lt
    have k1 := b1.below hb1 b1.lt
    have k2 := b2.below hb1 b2.lt
    have k3 := b3.below hb1 b3.lt
    have hO1 : Only [] w w1 := hO0.trans (Only.of_below' hb1)
    have hb1' := hb0.bel hb1
    have ha1' := ha0.bel hb1
    clear hcall c0 c1 c2 c3 c4 d0 e0 b0 b1 b2 b3 hb0 ha0
    have hs1 := hb1.size
    have d0 := k1.cell 0
    have f0 := k1.frozen 0
    have hg8 : w.heap.size ≤ N + 1 := by omega
    have l0 := k0.other (B' := N + 1) (by omega) 0 (.int .i64 (M : Int))
    have l1 := k1.set 0 (.int .i64 (M : Int))
    have l2 := k2.other (B' := N + 1) (by omega) 0 (.int .i64 (M : Int))
    have l3 := k3.other (B' := N + 1) (by omega) 0 (.int .i64 (M : Int))
    have hO2 := hO1.setNew hg8 0 (.int .i64 (M : Int))
    have hbk := holds_other hb1' (g := N + 1) (by omega) 0 (.int .i64 (M : Int))
    have hak := holdsR_other ha1' (g := N + 1) (by omega) 0 (.int .i64 (M : Int))
    have hz2 : N + 4 ≤ (w1.setCell ⟨N + 1, 0, none⟩ (.int .i64 (M : Int))).heap.size := by have := l3.lt; omega
    obtain ⟨W2, hW2⟩ : ∃ W2, w1.setCell ⟨N + 1, 0, none⟩ (.int .i64 (M : Int)) = W2 := ⟨_, rfl⟩
    rw [hW2] at l0 l1 l2 l3 hO2 hbk hak hz2
    have HW2 : Hid _ := hW2
    have hcall := remakeT_calls t (fun b => b < N) _ _ (.pointer (some ⟨N + 1, 0, none⟩)) (.pointer (some ⟨N + 2, 0, none⟩)) W2 [] (fun outs _ => outs = (t.kids.take outs.length).map (Rw.turn g M)) hbk hak (fun b _ => by simp) (fun b h => by cases h) hf1 hf2 rfl (fun _ _ _ h _ => h)
      (by
        intro outs u ok' sb' sr' cur hu hP hOc h1 h2 _
        have hum := List.mem_of_getElem? hu
        refine (turn1_calls 97 #[caps1] W g u (hIH.out u hum) M (N + 1) (N + 2) ok' sb' sr' cur ((hWw.trans hO2).trans hOc) (HSZ.out u hum) (l1.only hOc (by simp)) (l2.only hOc (by simp)) h1 h2).mono fun e w' h => ⟨u.turn g M, h, ?_⟩
        show outs ++ [u.turn g M] = (t.kids.take (outs ++ [u.turn g M]).length).map (Rw.turn g M)
        rw [List.length_append, List.length_singleton, List.take_add_one, hu, List.map_append, ← hP]; rfl)
    rw [HK.out] at hcall
    have HN2 : Hid (t.kids.length = n2) := hn2
    rw [hn2] at hcall
    clear hW2 hb1' ha1' hbk hak k0 k1 k2 k3 hb1 hn2
    go_upto_region 4 with fail
    rw [HW2.out]
    clear HW2 d0 f0
    have c0 := l0.cell 0
    have c1 := l0.cell 1
    have c2 := l0.cell 2
    have c3 := l0.cell 3
    have c4 := l0.cell 4
    go_wp2_with fail
    refine hcall.mono ?_
    rintro e w3 ⟨outs, ho1, ⟨vb, vr, he, hvb, hvr, hO3⟩, ho2⟩
    have hos : outs = turnL g M t.kids := by rw [turnL_map]; rw [ho1, ← HN2.out, List.take_length] at ho2; exact ho2
    subst hos
    have he' : e = .returned (rwv k vb t.ty.base t.idx vr) := by rw [he, HK.out]; rfl
    subst he'
    have hvb : Holds w3 (fun b => W2.heap.size ≤ b) t.ty.args vb := hvb
    have hvr : HoldsR w3 (fun b => W2.heap.size ≤ b) (turnL g M t.kids) vr := hvr
    obtain ⟨u1, u2, rfl, _⟩ := hvb.shape
    obtain ⟨u3, u4, rfl, _⟩ := hvr.shape
    generalize turnL g M t.kids = tk at *
    generalize t.ty.args.length = m1 at *
    generalize tk.length = m2 at *
    have m9 := l3.only hO3 (by simp)
    have hO4 : Only [] w w3 := hO2.trans hO3
    clear hcall c0 c1 c2 c3 c4 he ho1 ho2 l0 l1 l2 l3
    have e0 := m9.cell 0
    have e1 := m9.cell 1
    have e2 := m9.cell 2
    have e3 := m9.cell 3
    have e4 := m9.cell 4
    have f0 := m9.frozen 0
    have f1 := m9.frozen 1
    have f2 := m9.frozen 2
    have f3 := m9.frozen 3
    have f4 := m9.frozen 4
    have h5 := holds_set5 (g := N + 3) (ok' := fun b => w.heap.size ≤ b) hvb (fun b _ h => ⟨by omega, by omega⟩) (.int .i64 k) (.slice u1 m1 u2) (.int .i64 t.ty.base) (.int .i64 t.idx) (.slice u3 m2 u4)
    have h6 := holdsR_set5 (g := N + 3) (ok' := fun b => w.heap.size ≤ b) hvr (fun b _ h => ⟨by omega, by omega⟩) (.int .i64 k) (.slice u1 m1 u2) (.int .i64 t.ty.base) (.int .i64 t.idx) (.slice u3 m2 u4)
    have b5 := (((((m9.set 0 (.int .i64 k)).set 1 (.slice u1 m1 u2)).set 2 (.int .i64 t.ty.base)).set 3 (.int .i64 t.idx)).set 4 (.slice u3 m2 u4))
    have hO5 := (((((hO4.setNew hg9 0 (.int .i64 k)).setNew hg9 1 (.slice u1 m1 u2)).setNew hg9 2 (.int .i64 t.ty.base)).setNew hg9 3 (.int .i64 t.idx)).setNew hg9 4 (.slice u3 m2 u4))
    go_wp2
    generalize (((((w3.setCell ⟨N + 3, 0, none⟩ (.int .i64 k)).setCell ⟨N + 3, 1, none⟩ (.slice u1 m1 u2)).setCell ⟨N + 3, 2, none⟩ (.int .i64 t.ty.base)).setCell ⟨N + 3, 3, none⟩ (.int .i64 t.idx)).setCell ⟨N + 3, 4, none⟩ (.slice u3 m2 u4)) = W5 at *
    have g0 : W5.cell? ⟨N + 3, 0, none⟩ = some (.int .i64 k) := b5.cell 0
    have g1 : W5.cell? ⟨N + 3, 1, none⟩ = some (.slice u1 m1 u2) := b5.cell 1
    have g2 : W5.cell? ⟨N + 3, 2, none⟩ = some (.int .i64 t.ty.base) := b5.cell 2
    have g3 : W5.cell? ⟨N + 3, 3, none⟩ = some (.int .i64 t.idx) := b5.cell 3
    have g4 : W5.cell? ⟨N + 3, 4, none⟩ = some (.slice u3 m2 u4) := b5.cell 4
    exact bodyPost_ret (v := rwv k (.slice u1 m1 u2) t.ty.base t.idx (.slice u3 m2 u4)) (by simp [results, Try.results96, go_sem, g0, g1, g2, g3, g4]) rfl (by rw [HTE.out, HK.out]; exact ⟨_, _, rfl, h5, h6, hO5⟩)

end Go.Proofs.Ytckagmagjogmnaa
