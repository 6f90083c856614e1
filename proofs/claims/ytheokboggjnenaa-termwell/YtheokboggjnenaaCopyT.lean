/-
  The contracts of term.Copy and term.Body: a term told anew.
-/
import Derived.Test.YtheokboggjnenaaEachTm
import Derived.Test.YtheokboggjnenaaHeadsS
namespace Go.Proofs.Ytheokboggjnenaa
open Go Go.RowKit

theorem copy1_calls (k i b : Int) (w : World) :
    Calls Try.prog 90 #[hv k i, .int .i64 b] w fun e w' => e = .returned (hv k i) ∧ Below w.heap.size w w' := by
  go_enter Try.func90, Try.ntmps90
  go_wp2
  have hB := below_two w (.cells #[.int .i64 k, .int .i64 i] 31) (.cells #[.int .i64 k, .int .i64 i] 31)
  have b0 := Blk.new' (w.alloc (.cells #[.int .i64 k, .int .i64 i] 31)) (w.heap.size + 1) 31 #[.int .i64 k, .int .i64 i] (by simp)
  generalize (w.alloc (.cells #[.int .i64 k, .int .i64 i] 31)).alloc (.cells #[.int .i64 k, .int .i64 i] 31) = W at *
  have d0 := b0.cell 0
  have d1 := b0.cell 1
  exact bodyPost_ret (v := hv k i) (by simp [results, Try.results90, go_sem, d0, d1]) rfl ⟨rfl, hB⟩

theorem Cur.other4 {W0 w : World} (h : Cur W0 w) {B i R : Nat} {v : Value} (hc : W0.cell? ⟨B, i, none⟩ = some v) (hn : B ≠ R) (x0 x1 x2 x3 : Value) : ((((w.setCell ⟨R, 0, none⟩ x0).setCell ⟨R, 1, none⟩ x1).setCell ⟨R, 2, none⟩ x2).setCell ⟨R, 3, none⟩ x3).cell? ⟨B, i, none⟩ = some v := by
  have hb : ((((w.setCell ⟨R, 0, none⟩ x0).setCell ⟨R, 1, none⟩ x1).setCell ⟨R, 2, none⟩ x2).setCell ⟨R, 3, none⟩ x3).heap[B]? = w.heap[B]? := (Below.heap_setCell _ ⟨R, 3, none⟩ x3 B hn).trans ((Below.heap_setCell _ ⟨R, 2, none⟩ x2 B hn).trans ((Below.heap_setCell _ ⟨R, 1, none⟩ x1 B hn).trans (Below.heap_setCell w ⟨R, 0, none⟩ x0 B hn)))
  exact (World.cell?_of_block (w := w) (a := ⟨B, i, none⟩) hb).trans (h.cell hc)
theorem holdsT_z {w : World} {ok ok' : Nat → Prop} {ts : List Tm} {v : Value} {g : Nat} (h : HoldsT w ok ts v) (hg : ∀ b, b < w.heap.size → ok b → b ≠ g ∧ ok' b) (x0 x1 x2 x3 : Value) : HoldsT ((((w.setCell ⟨g, 0, none⟩ x0).setCell ⟨g, 1, none⟩ x1).setCell ⟨g, 2, none⟩ x2).setCell ⟨g, 3, none⟩ x3) ok' ts v := holdsT_set4' h hg 0 1 2 3 x0 x1 x2 x3

/-- turn's own word of one term, by what keeps heads -/
def TurnAt (t : Tm) : Prop := ∀ (b : Nat) (ok : Nat → Prop) (sb sr : Value) (w : World), Holds w ok t.binds sb → HoldsT w ok t.args sr → b + t.total ≤ 10000000 → t.total ≤ 1000000 →
    Calls Try.prog 84 #[tmv sb t.kind t.idx sr, .int .i64 b, .func (.func 90) #[] #[]] w fun e w' => ∃ vb vr, e = .returned (tmv vb t.kind t.idx vr) ∧ Holds w' (fun b => w.heap.size ≤ b) t.binds vb ∧ HoldsT w' (fun b => w.heap.size ≤ b) t.args vr ∧ Below w.heap.size w w'

set_option maxRecDepth 100000 in
set_option maxHeartbeats 1000000 in
theorem turn1_calls (u : Tm) (hT : TurnAt u) (P1 P2 b : Nat) (hbt : b + u.total ≤ 10000000) (ht2 : u.total ≤ 1000000) (W : World) (h1 : W.cell? ⟨P1, 0, none⟩ = some (.int .i64 b)) (h2 : W.cell? ⟨P2, 0, none⟩ = some (.func (.func 90) #[] #[])) :
    MapsAt 113 #[.pointer (some ⟨P1, 0, none⟩), .pointer (some ⟨P2, 0, none⟩)] W id u := by
  intro ok sb sr w hc hb hr
  show Calls Try.prog 113 #[tmv sb u.kind u.idx sr, .pointer (some ⟨P1, 0, none⟩), .pointer (some ⟨P2, 0, none⟩)] w fun e w' => ∃ vb vr, e = .returned (tmv vb u.kind u.idx vr) ∧ Holds w' (fun b => w.heap.size ≤ b) u.binds vb ∧ HoldsT w' (fun b => w.heap.size ≤ b) u.args vr ∧ Below w.heap.size w w'
  obtain ⟨x1, x2, rfl, _⟩ := hb.shape
  obtain ⟨x3, x4, rfl, _⟩ := hr.shape
  obtain ⟨bn, hbn⟩ : ∃ bn, u.binds.length = bn := ⟨_, rfl⟩
  obtain ⟨an, han⟩ : ∃ an, u.args.length = an := ⟨_, rfl⟩
  rw [hbn] at hb ⊢
  rw [han] at hr ⊢
  obtain ⟨N, hN⟩ : ∃ N, w.heap.size = N := ⟨_, rfl⟩
  rw [hN]
  obtain ⟨W0, hW0⟩ : ∃ W0, (w.alloc (.cells #[.slice x1 bn x2, .int .i64 u.kind, .int .i64 u.idx, .slice x3 an x4] 34)).alloc (.cells #[.slice none 0 0, .int .i64 0, .int .i64 0, .slice none 0 0] 34) = W0 := ⟨_, rfl⟩
  have b0 : Blk W0 N 34 #[.slice x1 bn x2, .int .i64 u.kind, .int .i64 u.idx, .slice x3 an x4] := by rw [← hW0]; exact (Blk.new' w N 34 _ hN).alloc _
  have b1 : Blk W0 (N + 1) 34 #[.slice none 0 0, .int .i64 0, .int .i64 0, .slice none 0 0] := by rw [← hW0]; exact Blk.new' _ (N + 1) 34 _ (by simp [hN])
  have bl0 : Below N w W0 := by rw [← hW0]; exact ((Below.refl N w).alloc (by omega) _).alloc (by simp; omega) _
  have hcW : Cur W W0 := hc.then (by rw [hN]; exact bl0)
  have c0 := b0.cell 0
  have c1 := b0.cell 1
  have c2 := b0.cell 2
  have c3 := b0.cell 3
  have p1 := hcW.cell h1
  have p2 := hcW.cell h2
  have hcall := hT b ok _ _ W0 (hb.bel (hN ▸ bl0)) (hr.bel (hN ▸ bl0)) hbt ht2
  have hz : N + 1 < W0.heap.size := b1.lt
  have HW : Hid _ := hW0
  clear hW0 hb hr hc hcW h1 h2 hT hbn han
  go_enter Try.func113, Try.ntmps113
  go_upto_region 1 with fail
  rw [HW.out]
  clear HW
  go_wp2_with fail
  refine hcall.mono ?_
  rintro e w1 ⟨vb, vr, rfl, q1, q2, hb1⟩
  obtain ⟨y1, y2, rfl, _⟩ := q1.shape
  obtain ⟨y3, y4, rfl, _⟩ := q2.shape
  generalize u.binds.length = m1 at *
  generalize u.args.length = m2 at *
  have m9 := b1.below hb1 b1.lt
  have e0 := m9.cell 0
  have e1 := m9.cell 1
  have e2 := m9.cell 2
  have e3 := m9.cell 3
  have f0 := m9.frozen 0
  have f1 := m9.frozen 1
  have f2 := m9.frozen 2
  have f3 := m9.frozen 3
  have b9 := (((m9.set 0 (.slice y1 m1 y2)).set 1 (.int .i64 u.kind)).set 2 (.int .i64 u.idx)).set 3 (.slice y3 m2 y4)
  have r1 := holds_set4 (g := N + 1) (ok' := fun b => N ≤ b) q1 (fun b _ h => ⟨by omega, by omega⟩) (.slice y1 m1 y2) (.int .i64 u.kind) (.int .i64 u.idx) (.slice y3 m2 y4)
  have r2 := holdsT_z (g := N + 1) (ok' := fun b => N ≤ b) q2 (fun b _ h => ⟨by omega, by omega⟩) (.slice y1 m1 y2) (.int .i64 u.kind) (.int .i64 u.idx) (.slice y3 m2 y4)
  have r3 : Below N w ((((w1.setCell ⟨N + 1, 0, none⟩ (.slice y1 m1 y2)).setCell ⟨N + 1, 1, none⟩ (.int .i64 u.kind)).setCell ⟨N + 1, 2, none⟩ (.int .i64 u.idx)).setCell ⟨N + 1, 3, none⟩ (.slice y3 m2 y4)) := bset (bset (bset (bset (bl0.trans (hb1.mono (by omega))) (by omega) _) (by omega) _) (by omega) _) (by omega) _
  clear q1 q2
  go_wp2
  generalize (((w1.setCell ⟨N + 1, 0, none⟩ (.slice y1 m1 y2)).setCell ⟨N + 1, 1, none⟩ (.int .i64 u.kind)).setCell ⟨N + 1, 2, none⟩ (.int .i64 u.idx)).setCell ⟨N + 1, 3, none⟩ (.slice y3 m2 y4) = W5 at *
  have g0 : W5.cell? ⟨N + 1, 0, none⟩ = some (.slice y1 m1 y2) := b9.cell 0
  have g1 : W5.cell? ⟨N + 1, 1, none⟩ = some (.int .i64 u.kind) := b9.cell 1
  have g2 : W5.cell? ⟨N + 1, 2, none⟩ = some (.int .i64 u.idx) := b9.cell 2
  have g3 : W5.cell? ⟨N + 1, 3, none⟩ = some (.slice y3 m2 y4) := b9.cell 3
  exact bodyPost_ret (v := tmv (.slice y1 m1 y2) u.kind u.idx (.slice y3 m2 y4)) (by simp [results, Try.results113, go_sem, g0, g1, g2, g3]) rfl ⟨_, _, rfl, r1, r2, r3⟩

set_option maxRecDepth 100000 in
set_option maxHeartbeats 800000 in
theorem turn_calls (t : Tm) : TurnAt t := by
  induction t using Tm.ind with
  | h t ih =>
  intro b ok sb sr w hb hr hbt ht2
  have htot := t.total_eq
  have hlb := sizeL_length t.binds
  have hla := totalT_length t.args
  obtain ⟨x1, x2, rfl, _⟩ := hb.shape
  obtain ⟨x3, x4, rfl, _⟩ := hr.shape
  obtain ⟨bn, hbn⟩ : ∃ bn, t.binds.length = bn := ⟨_, rfl⟩
  obtain ⟨an, han⟩ : ∃ an, t.args.length = an := ⟨_, rfl⟩
  rw [hbn] at hb hlb ⊢
  rw [han] at hr hla ⊢
  obtain ⟨N, hN⟩ : ∃ N, w.heap.size = N := ⟨_, rfl⟩
  rw [hN]
  obtain ⟨W0, hW0⟩ : ∃ W0, (((w.alloc (.cells #[.slice x1 bn x2, .int .i64 t.kind, .int .i64 t.idx, .slice x3 an x4] 34)).alloc (.cells #[.int .i64 ((b : Int) + (bn : Int))] 3)).alloc (.cells #[.func (.func 90) #[] #[]] 132)).alloc (.cells #[.slice none 0 0, .int .i64 0, .int .i64 0, .slice none 0 0] 34) = W0 := ⟨_, rfl⟩
  have b0 : Blk W0 N 34 #[.slice x1 bn x2, .int .i64 t.kind, .int .i64 t.idx, .slice x3 an x4] := by rw [← hW0]; exact (((Blk.new' w N 34 _ hN).alloc _).alloc _).alloc _
  have b1 : Blk W0 (N + 1) 3 #[.int .i64 ((b : Int) + (bn : Int))] := by rw [← hW0]; exact ((Blk.new' _ (N + 1) 3 _ (by simp [hN])).alloc _).alloc _
  have b2 : Blk W0 (N + 2) 132 #[.func (.func 90) #[] #[]] := by rw [← hW0]; exact (Blk.new' _ (N + 2) 132 _ (by simp [hN])).alloc _
  have b3 : Blk W0 (N + 3) 34 #[.slice none 0 0, .int .i64 0, .int .i64 0, .slice none 0 0] := by rw [← hW0]; exact Blk.new' _ (N + 3) 34 _ (by simp [hN])
  have hz0 : W0.heap.size = N + 4 := by rw [← hW0]; simp [hN]
  have bl0 : Below N w W0 := by rw [← hW0]; exact ((((Below.refl N w).alloc (by omega) _).alloc (by simp; omega) _).alloc (by simp; omega) _).alloc (by simp; omega) _
  have hb0 := hb.bel (hN ▸ bl0)
  have hr0 := hr.bel (hN ▸ bl0)
  have HW : Hid _ := hW0
  have c0 := b0.cell 0
  have c1 := b0.cell 1
  have c2 := b0.cell 2
  have c3 := b0.cell 3
  have d1 := b1.cell 0
  have d2 := b2.cell 0
  have hsb : sizeL t.binds ≤ 1000000 := by omega
  have hla2 : t.args.length ≤ 1000000 := by omega
  have hmf : ∀ (fn : Fn) (first cap : Array Value) (w : World), (Instr.makeFunc fn first cap).run Try.prog w = .ok (.func fn first cap) w := fun _ _ _ _ => rfl
  have k111 : ∀ cur, Cur W0 cur → Calls Try.prog 111 #[.slice x1 bn x2, .func (.func 74) #[] #[]] cur fun e w' => ∃ va vc, e = .returned (.slice va bn vc) ∧ Holds w' (fun b => W0.heap.size ≤ b) t.binds (.slice va bn vc) ∧ Cur W0 w' := fun cur hc =>
    (eachTy_calls t.binds ok _ cur (hc.holds hb0) hsb).mono fun e w' ⟨v, h1, h2, h3⟩ => by
      obtain ⟨va, vc, rfl, _⟩ := h2.shape
      rw [hbn] at h1 h2
      exact ⟨va, vc, h1, h2.mono (fun b _ h => Nat.le_trans (Below.size hc) h), hc.then h3⟩
  have k90 : ∀ cur, Cur W0 cur → Calls Try.prog 90 #[hv t.kind t.idx, .int .i64 ((b : Int) + (bn : Int))] cur fun e w' => e = .returned (hv t.kind t.idx) ∧ Below cur.heap.size cur w' ∧ Cur W0 w' := fun cur hc =>
    (copy1_calls t.kind t.idx _ cur).mono fun e w' ⟨h1, h3⟩ => ⟨h1, h3, hc.then h3⟩
  have k112 : ∀ cur, Cur W0 cur → Calls Try.prog 112 #[.slice x3 an x4, .func (.func 113) #[] #[.pointer (some ⟨N + 1, 0, none⟩), .pointer (some ⟨N + 2, 0, none⟩)]] cur fun e w' => ∃ va vn vc, e = .returned (.slice va vn vc) ∧ HoldsT w' (fun b => W0.heap.size ≤ b) t.args (.slice va vn vc) ∧ Below cur.heap.size cur w' ∧ Cur W0 w' := fun cur hc =>
    (eachTm_calls t.args id ok _ _ _ cur (hr0.bel hc) hla2 (fun u hu => turn1_calls u (ih u hu) (N + 1) (N + 2) (b + bn) (by have := total_mem hu; omega) (by have := total_mem hu; omega) cur (hc.cell d1) (hc.cell d2))).mono fun e w' ⟨v, h1, h2, h3⟩ => by
      rw [List.map_id] at h2
      obtain ⟨va, vc, rfl, _⟩ := h2.shape
      exact ⟨va, _, vc, h1, h2.mono (fun b _ h => Nat.le_trans (Below.size hc) h), h3, hc.then h3⟩
  have hK : ∀ v, Cur W0 v → v.cell? ⟨N, 0, none⟩ = some (.slice x1 bn x2) ∧ v.cell? ⟨N, 1, none⟩ = some (.int .i64 t.kind) ∧ v.cell? ⟨N, 2, none⟩ = some (.int .i64 t.idx) ∧ v.cell? ⟨N, 3, none⟩ = some (.slice x3 an x4) ∧ v.cell? ⟨N + 1, 0, none⟩ = some (.int .i64 ((b : Int) + (bn : Int))) ∧ v.cell? ⟨N + 2, 0, none⟩ = some (.func (.func 90) #[] #[]) := fun v hv => ⟨hv.cell c0, hv.cell c1, hv.cell c2, hv.cell c3, hv.cell d1, hv.cell d2⟩
  have hne0 : N ≠ N + 3 := by omega
  have hne1 : N + 1 ≠ N + 3 := by omega
  have hne2 : N + 2 ≠ N + 3 := by omega
  have hbn2 : bn ≤ 1000000 := by omega
  have hb2 : b ≤ 10000000 := by omega
  clear hW0 hb hr hb0 hr0 ih hbt ht2 htot hlb hla hsb hla2
  go_enter Try.func84, Try.ntmps84
  go_upto_region 2 with fail
  rw [HW.out]
  clear HW
  have hcur := Cur.refl W0
  go_region_held3 (fun v => v.cell? ⟨N, 0, none⟩ = some (.slice x1 bn x2) ∧ v.cell? ⟨N, 1, none⟩ = some (.int .i64 t.kind) ∧ v.cell? ⟨N, 2, none⟩ = some (.int .i64 t.idx) ∧ v.cell? ⟨N, 3, none⟩ = some (.slice x3 an x4) ∧ v.cell? ⟨N + 1, 0, none⟩ = some (.int .i64 ((b : Int) + (bn : Int))) ∧ v.cell? ⟨N + 2, 0, none⟩ = some (.func (.func 90) #[] #[]))
    (first | with_reducible exact hK _ (by first | with_reducible assumption | (with_reducible refine Cur.drew ?_; assumption)) | with_reducible exact ⟨Cur.other4 hc3 c0 hne0 _ _ _ _, Cur.other4 hc3 c1 hne0 _ _ _ _, Cur.other4 hc3 c2 hne0 _ _ _ _, Cur.other4 hc3 c3 hne0 _ _ _ _, Cur.other4 hc3 d1 hne1 _ _ _ _, Cur.other4 hc3 d2 hne2 _ _ _ _⟩)
    (first
      | (go_at_call 111; refine (k111 _ (by first | with_reducible assumption | (with_reducible refine Cur.drew ?_; assumption))).mono ?_; rintro e w1 ⟨va, vc, rfl, hv1, hc1⟩)
      | (go_at_call 90; refine (k90 _ (by first | with_reducible assumption | (with_reducible refine Cur.drew ?_; assumption))).mono ?_; rintro e w2 ⟨rfl, hb2', hc2⟩; have hv2 := hv1.bel hb2')
      | (go_at_call 112; refine (k112 _ (by first | with_reducible assumption | (with_reducible refine Cur.drew ?_; assumption))).mono ?_; rintro e w3 ⟨vd, vn, ve, rfl, q2, hb3, hc3⟩; have q1 := hv2.bel hb3; have m9 := b3.below hc3 b3.lt; have e0 := m9.cell 0; have e1 := m9.cell 1; have e2 := m9.cell 2; have e3 := m9.cell 3; have f0 := m9.frozen 0; have f1 := m9.frozen 1; have f2 := m9.frozen 2; have f3 := m9.frozen 3))
  all_goals
    have b9 : Blk ((((w3.setCell ⟨N + 1 + 1 + 1, 0, none⟩ (.slice va bn vc)).setCell ⟨N + 1 + 1 + 1, 1, none⟩ (.int .i64 t.kind)).setCell ⟨N + 1 + 1 + 1, 2, none⟩ (.int .i64 t.idx)).setCell ⟨N + 1 + 1 + 1, 3, none⟩ (.slice vd vn ve)) (N + 1 + 1 + 1) 34 #[.slice va bn vc, .int .i64 t.kind, .int .i64 t.idx, .slice vd vn ve] := (((m9.set 0 (.slice va bn vc)).set 1 (.int .i64 t.kind)).set 2 (.int .i64 t.idx)).set 3 (.slice vd vn ve)
    have r1 : Holds ((((w3.setCell ⟨N + 1 + 1 + 1, 0, none⟩ (.slice va bn vc)).setCell ⟨N + 1 + 1 + 1, 1, none⟩ (.int .i64 t.kind)).setCell ⟨N + 1 + 1 + 1, 2, none⟩ (.int .i64 t.idx)).setCell ⟨N + 1 + 1 + 1, 3, none⟩ (.slice vd vn ve)) (fun b => N ≤ b) t.binds (.slice va bn vc) := holds_set4 q1 (fun b _ h => ⟨by omega, by omega⟩) _ _ _ _
    have r2 : HoldsT ((((w3.setCell ⟨N + 1 + 1 + 1, 0, none⟩ (.slice va bn vc)).setCell ⟨N + 1 + 1 + 1, 1, none⟩ (.int .i64 t.kind)).setCell ⟨N + 1 + 1 + 1, 2, none⟩ (.int .i64 t.idx)).setCell ⟨N + 1 + 1 + 1, 3, none⟩ (.slice vd vn ve)) (fun b => N ≤ b) t.args (.slice vd vn ve) := holdsT_z q2 (fun b _ h => ⟨by omega, by omega⟩) _ _ _ _
    have r3 : Below N w ((((w3.setCell ⟨N + 1 + 1 + 1, 0, none⟩ (.slice va bn vc)).setCell ⟨N + 1 + 1 + 1, 1, none⟩ (.int .i64 t.kind)).setCell ⟨N + 1 + 1 + 1, 2, none⟩ (.int .i64 t.idx)).setCell ⟨N + 1 + 1 + 1, 3, none⟩ (.slice vd vn ve)) := bset (bset (bset (bset (bl0.trans (Below.mono hc3 (by omega))) (by omega) _) (by omega) _) (by omega) _) (by omega) _
    clear q1 q2 m9 e0 e1 e2 e3 f0 f1 f2 f3 hv1 hv2
    generalize (((w3.setCell ⟨N + 1 + 1 + 1, 0, none⟩ (.slice va bn vc)).setCell ⟨N + 1 + 1 + 1, 1, none⟩ (.int .i64 t.kind)).setCell ⟨N + 1 + 1 + 1, 2, none⟩ (.int .i64 t.idx)).setCell ⟨N + 1 + 1 + 1, 3, none⟩ (.slice vd vn ve) = W5 at *
    go_wp2
    have g0 : W5.cell? ⟨N + 1 + 1 + 1, 0, none⟩ = some (.slice va bn vc) := b9.cell 0
    have g1 : W5.cell? ⟨N + 1 + 1 + 1, 1, none⟩ = some (.int .i64 t.kind) := b9.cell 1
    have g2 : W5.cell? ⟨N + 1 + 1 + 1, 2, none⟩ = some (.int .i64 t.idx) := b9.cell 2
    have g3 : W5.cell? ⟨N + 1 + 1 + 1, 3, none⟩ = some (.slice vd vn ve) := b9.cell 3
    exact bodyPost_ret (v := tmv (.slice va bn vc) t.kind t.idx (.slice vd vn ve)) (by simp [results, Try.results84, go_sem, g0, g1, g2, g3]) rfl ⟨_, _, rfl, r1, r2, r3⟩

set_option maxRecDepth 100000 in
set_option maxHeartbeats 1000000 in
theorem CopyT_calls (t : Tm) (ok : Nat → Prop) (sb sr : Value) (w : World) (hb : Holds w ok t.binds sb) (hr : HoldsT w ok t.args sr) (ht2 : t.total ≤ 1000000) :
    Calls Try.prog 52 #[tmv sb t.kind t.idx sr] w fun e w' => ∃ vb vr, e = .returned (tmv vb t.kind t.idx vr) ∧ Holds w' (fun b => w.heap.size ≤ b) t.binds vb ∧ HoldsT w' (fun b => w.heap.size ≤ b) t.args vr ∧ Below w.heap.size w w' := by
  obtain ⟨x1, x2, rfl, _⟩ := hb.shape
  obtain ⟨x3, x4, rfl, _⟩ := hr.shape
  obtain ⟨bn, hbn⟩ : ∃ bn, t.binds.length = bn := ⟨_, rfl⟩
  obtain ⟨an, han⟩ : ∃ an, t.args.length = an := ⟨_, rfl⟩
  rw [hbn] at hb ⊢
  rw [han] at hr ⊢
  obtain ⟨N, hN⟩ : ∃ N, w.heap.size = N := ⟨_, rfl⟩
  rw [hN]
  obtain ⟨W0, hW0⟩ : ∃ W0, (w.alloc (.cells #[.slice x1 bn x2, .int .i64 t.kind, .int .i64 t.idx, .slice x3 an x4] 34)).alloc (.cells #[.slice none 0 0, .int .i64 0, .int .i64 0, .slice none 0 0] 34) = W0 := ⟨_, rfl⟩
  have b0 : Blk W0 N 34 #[.slice x1 bn x2, .int .i64 t.kind, .int .i64 t.idx, .slice x3 an x4] := by rw [← hW0]; exact (Blk.new' w N 34 _ hN).alloc _
  have b1 : Blk W0 (N + 1) 34 #[.slice none 0 0, .int .i64 0, .int .i64 0, .slice none 0 0] := by rw [← hW0]; exact Blk.new' _ (N + 1) 34 _ (by simp [hN])
  have bl0 : Below N w W0 := by rw [← hW0]; exact ((Below.refl N w).alloc (by omega) _).alloc (by simp; omega) _
  have c0 := b0.cell 0
  have c1 := b0.cell 1
  have c2 := b0.cell 2
  have c3 := b0.cell 3
  have hcall := turn_calls t 0 ok _ _ W0 (hb.bel (hN ▸ bl0)) (hr.bel (hN ▸ bl0)) (by omega) ht2
  have hz : N + 1 < W0.heap.size := b1.lt
  have HW : Hid _ := hW0
  clear hW0 hb hr hbn han
  go_enter Try.func52, Try.ntmps52
  go_upto_region 1 with fail
  rw [HW.out]
  clear HW
  go_wp2_with fail
  refine hcall.mono ?_
  rintro e w1 ⟨vb, vr, rfl, q1, q2, hb1⟩
  obtain ⟨y1, y2, rfl, _⟩ := q1.shape
  obtain ⟨y3, y4, rfl, _⟩ := q2.shape
  generalize t.binds.length = m1 at *
  generalize t.args.length = m2 at *
  have m9 := b1.below hb1 b1.lt
  have e0 := m9.cell 0
  have e1 := m9.cell 1
  have e2 := m9.cell 2
  have e3 := m9.cell 3
  have f0 := m9.frozen 0
  have f1 := m9.frozen 1
  have f2 := m9.frozen 2
  have f3 := m9.frozen 3
  have b9 := (((m9.set 0 (.slice y1 m1 y2)).set 1 (.int .i64 t.kind)).set 2 (.int .i64 t.idx)).set 3 (.slice y3 m2 y4)
  have r1 := holds_set4 (g := N + 1) (ok' := fun b => N ≤ b) q1 (fun b _ h => ⟨by omega, by omega⟩) (.slice y1 m1 y2) (.int .i64 t.kind) (.int .i64 t.idx) (.slice y3 m2 y4)
  have r2 := holdsT_z (g := N + 1) (ok' := fun b => N ≤ b) q2 (fun b _ h => ⟨by omega, by omega⟩) (.slice y1 m1 y2) (.int .i64 t.kind) (.int .i64 t.idx) (.slice y3 m2 y4)
  have r3 : Below N w ((((w1.setCell ⟨N + 1, 0, none⟩ (.slice y1 m1 y2)).setCell ⟨N + 1, 1, none⟩ (.int .i64 t.kind)).setCell ⟨N + 1, 2, none⟩ (.int .i64 t.idx)).setCell ⟨N + 1, 3, none⟩ (.slice y3 m2 y4)) := bset (bset (bset (bset (bl0.trans (hb1.mono (by omega))) (by omega) _) (by omega) _) (by omega) _) (by omega) _
  clear q1 q2
  go_wp2
  generalize (((w1.setCell ⟨N + 1, 0, none⟩ (.slice y1 m1 y2)).setCell ⟨N + 1, 1, none⟩ (.int .i64 t.kind)).setCell ⟨N + 1, 2, none⟩ (.int .i64 t.idx)).setCell ⟨N + 1, 3, none⟩ (.slice y3 m2 y4) = W5 at *
  have g0 : W5.cell? ⟨N + 1, 0, none⟩ = some (.slice y1 m1 y2) := b9.cell 0
  have g1 : W5.cell? ⟨N + 1, 1, none⟩ = some (.int .i64 t.kind) := b9.cell 1
  have g2 : W5.cell? ⟨N + 1, 2, none⟩ = some (.int .i64 t.idx) := b9.cell 2
  have g3 : W5.cell? ⟨N + 1, 3, none⟩ = some (.slice y3 m2 y4) := b9.cell 3
  exact bodyPost_ret (v := tmv (.slice y1 m1 y2) t.kind t.idx (.slice y3 m2 y4)) (by simp [results, Try.results52, go_sem, g0, g1, g2, g3]) rfl ⟨_, _, rfl, r1, r2, r3⟩

set_option maxRecDepth 100000 in
set_option maxHeartbeats 1000000 in
theorem BodyT_calls (t : Tm) (ok : Nat → Prop) (sb sr : Value) (w : World) (hb : Holds w ok t.binds sb) (hr : HoldsT w ok t.args sr) (ht2 : t.total ≤ 1000000) :
    Calls Try.prog 51 #[tmv sb t.kind t.idx sr] w fun e w' => ∃ vb vr, e = .returned (tmv vb t.kind t.idx vr) ∧ Holds w' (fun b => w.heap.size ≤ b) [] vb ∧ HoldsT w' (fun b => w.heap.size ≤ b) t.args vr ∧ Below w.heap.size w w' := by
  obtain ⟨x1, x2, rfl, _⟩ := hb.shape
  obtain ⟨x3, x4, rfl, _⟩ := hr.shape
  obtain ⟨bn, hbn⟩ : ∃ bn, t.binds.length = bn := ⟨_, rfl⟩
  obtain ⟨an, han⟩ : ∃ an, t.args.length = an := ⟨_, rfl⟩
  rw [hbn] at hb ⊢
  rw [han] at hr ⊢
  obtain ⟨N, hN⟩ : ∃ N, w.heap.size = N := ⟨_, rfl⟩
  rw [hN]
  obtain ⟨W0, hW0⟩ : ∃ W0, (w.alloc (.cells #[.slice x1 bn x2, .int .i64 t.kind, .int .i64 t.idx, .slice x3 an x4] 34)).alloc (.cells #[.slice none 0 0, .int .i64 0, .int .i64 0, .slice none 0 0] 34) = W0 := ⟨_, rfl⟩
  have b0 : Blk W0 N 34 #[.slice x1 bn x2, .int .i64 t.kind, .int .i64 t.idx, .slice x3 an x4] := by rw [← hW0]; exact (Blk.new' w N 34 _ hN).alloc _
  have b1 : Blk W0 (N + 1) 34 #[.slice none 0 0, .int .i64 0, .int .i64 0, .slice none 0 0] := by rw [← hW0]; exact Blk.new' _ (N + 1) 34 _ (by simp [hN])
  have bl0 : Below N w W0 := by rw [← hW0]; exact ((Below.refl N w).alloc (by omega) _).alloc (by simp; omega) _
  have c0 := b0.cell 0
  have c1 := b0.cell 1
  have c2 := b0.cell 2
  have c3 := b0.cell 3
  have htot := t.total_eq
  have hcall := CopyT_calls (.mk [] t.kind t.idx t.args) ok (.slice none 0 0) _ W0 (Holds.nil _ _ _ _ (fun _ => rfl)) (hr.bel (hN ▸ bl0)) (by have h9 : (Tm.mk [] t.kind t.idx t.args).total = 1 + 0 + totalT t.args := rfl; omega)
  have hcall2 : Calls Try.prog 52 #[tmv (.slice none 0 0) t.kind t.idx (.slice x3 an x4)] W0 fun e w' => ∃ vb vr, e = .returned (tmv vb t.kind t.idx vr) ∧ Holds w' (fun b => W0.heap.size ≤ b) [] vb ∧ HoldsT w' (fun b => W0.heap.size ≤ b) t.args vr ∧ Below W0.heap.size W0 w' := hcall
  have hz : N + 1 < W0.heap.size := b1.lt
  have HW : Hid _ := hW0
  clear hW0 hb hr hbn han hcall htot
  go_enter Try.func51, Try.ntmps51
  go_upto_region 1 with fail
  rw [HW.out]
  clear HW
  go_wp2_with fail
  refine hcall2.mono ?_
  rintro e w1 ⟨vb, vr, rfl, q1, q2, hb1⟩
  obtain ⟨y1, y2, rfl, _⟩ := q1.shape
  obtain ⟨y3, y4, rfl, _⟩ := q2.shape
  generalize ([] : List Ty).length = m1 at *
  generalize t.args.length = m2 at *
  have m9 := b1.below hb1 b1.lt
  have e0 := m9.cell 0
  have e1 := m9.cell 1
  have e2 := m9.cell 2
  have e3 := m9.cell 3
  have f0 := m9.frozen 0
  have f1 := m9.frozen 1
  have f2 := m9.frozen 2
  have f3 := m9.frozen 3
  have b9 := (((m9.set 0 (.slice y1 m1 y2)).set 1 (.int .i64 t.kind)).set 2 (.int .i64 t.idx)).set 3 (.slice y3 m2 y4)
  have r1 := holds_set4 (g := N + 1) (ok' := fun b => N ≤ b) q1 (fun b _ h => ⟨by omega, by omega⟩) (.slice y1 m1 y2) (.int .i64 t.kind) (.int .i64 t.idx) (.slice y3 m2 y4)
  have r2 := holdsT_z (g := N + 1) (ok' := fun b => N ≤ b) q2 (fun b _ h => ⟨by omega, by omega⟩) (.slice y1 m1 y2) (.int .i64 t.kind) (.int .i64 t.idx) (.slice y3 m2 y4)
  have r3 : Below N w ((((w1.setCell ⟨N + 1, 0, none⟩ (.slice y1 m1 y2)).setCell ⟨N + 1, 1, none⟩ (.int .i64 t.kind)).setCell ⟨N + 1, 2, none⟩ (.int .i64 t.idx)).setCell ⟨N + 1, 3, none⟩ (.slice y3 m2 y4)) := bset (bset (bset (bset (bl0.trans (hb1.mono (by omega))) (by omega) _) (by omega) _) (by omega) _) (by omega) _
  clear q1 q2
  go_wp2
  generalize (((w1.setCell ⟨N + 1, 0, none⟩ (.slice y1 m1 y2)).setCell ⟨N + 1, 1, none⟩ (.int .i64 t.kind)).setCell ⟨N + 1, 2, none⟩ (.int .i64 t.idx)).setCell ⟨N + 1, 3, none⟩ (.slice y3 m2 y4) = W5 at *
  have g0 : W5.cell? ⟨N + 1, 0, none⟩ = some (.slice y1 m1 y2) := b9.cell 0
  have g1 : W5.cell? ⟨N + 1, 1, none⟩ = some (.int .i64 t.kind) := b9.cell 1
  have g2 : W5.cell? ⟨N + 1, 2, none⟩ = some (.int .i64 t.idx) := b9.cell 2
  have g3 : W5.cell? ⟨N + 1, 3, none⟩ = some (.slice y3 m2 y4) := b9.cell 3
  exact bodyPost_ret (v := tmv (.slice y1 m1 y2) t.kind t.idx (.slice y3 m2 y4)) (by simp [results, Try.results51, go_sem, g0, g1, g2, g3]) rfl ⟨_, _, rfl, r1, r2, r3⟩

end Go.Proofs.Ytheokboggjnenaa
