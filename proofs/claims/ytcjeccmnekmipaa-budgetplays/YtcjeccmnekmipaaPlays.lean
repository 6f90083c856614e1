/-
  The law BudgetPlays, as a contract: whatever the number and the calls, true, and nothing old has turned.
-/
import Derived.Test.YtcjeccmnekmipaaInv
import Derived.Test.YtcjeccmnekmipaaDry
import Derived.Deep.RegionHeld3
import Derived.Deep.DrawnRows
namespace Go.Proofs.Ytcjeccmnekmipaa
open Go Go.RowKit
attribute [local go_sem ↓] Go.wp_at_zero Go.wp_at_succ

theorem Arr.alloc {W : World} {B : Nat} {t : TypeId} {f : Nat → Nat} (h : Arr W B t f) (o : Obj) : Arr (W.alloc o) B t f := Blk.alloc h o
theorem Arr.drew {W : World} {B : Nat} {t : TypeId} {f : Nat → Nat} (h : Arr W B t f) : Arr W.drew B t f := h
theorem Arr.only {S : List Nat} {W W' : World} {B : Nat} {t : TypeId} {f : Nat → Nat} (h : Arr W B t f) (o : Only S W W') (hB : B ∉ S) : Arr W' B t f := Blk.only h o hB

/-- the post of a region that ends in its own way alone -/
def AtEnd (R : Act → World → Prop) : Exit → Act → World → Prop
  | .normal, a, w => R a w
  | _, _, _ => False
/-- WHERE THE ORDERS OF A REGION MEET: of the slots from m on, n of them, each holds something; all others are as they were. -/
theorem region_meets {P : Program} {c : Code} {Q : Exit → Act → World → Prop} {a : Act} {w : World} (m n : Nat) (R : World → Prop)
    (first : c.wp P (AtEnd fun a' w' => R w' ∧ ∃ vs : List Value, vs.length = n ∧ a' = ⟨(a.tmps.toList.take m ++ (vs ++ a.tmps.toList.drop (m + n))).toArray, a.defers⟩) a w)
    (rest : ∀ (vs : List Value) (w' : World), vs.length = n → R w' → Q .normal ⟨(a.tmps.toList.take m ++ (vs ++ a.tmps.toList.drop (m + n))).toArray, a.defers⟩ w') : c.wp P Q a w := by
  refine Code.wp_mono ?_ first
  intro e a' w' h
  cases e with
  | normal => obtain ⟨hR, vs, hl, rfl⟩ := h; exact rest vs w' hl hR
  | exit id => exact h.elim
  | goto l => exact h.elim
  | ret => exact h.elim
  | panic ch => exact h.elim
  | outgrown => exact h.elim

theorem keep3 {V V' : World} {S : List Nat} (o : Only S V V') {p1 p2 p3 : Addr} {v1 v2 v3 : Value} (h : V.cell? p1 = some v1 ∧ V.cell? p2 = some v2 ∧ V.cell? p3 = some v3) (h1 : p1.block ∉ S) (h2 : p2.block ∉ S) (h3 : p3.block ∉ S) :
    V'.cell? p1 = some v1 ∧ V'.cell? p2 = some v2 ∧ V'.cell? p3 = some v3 :=
  ⟨(o.cell (World.block_lt_of_cell? V p1 h.1) h1).trans h.1, (o.cell (World.block_lt_of_cell? V p2 h.2.1) h2).trans h.2.1, (o.cell (World.block_lt_of_cell? V p3 h.2.2) h3).trans h.2.2⟩

set_option maxRecDepth 100000 in
set_option maxHeartbeats 32000000 in
theorem BudgetPlays_calls (n : Int) (a0 : Option Addr) (len cap : Nat) (xs : Nat → Nat → Int) (w : World) (hlen : len ≤ maxLen)
    (hx : 0 < len → ∃ A o, a0 = some ⟨A, o, none⟩ ∧ A < w.heap.size ∧ ∀ j, j < len → ∀ i, i < 4 → w.cell? ⟨A, o + j * 4 + i, none⟩ = some (.int .i64 (xs j i))) :
    Calls Try.prog 3 #[.int .i64 n, .slice a0 len cap] w fun e w' => e = .returned (.bool true) ∧ Below w.heap.size w w' := by
  unfold maxLen at hlen
  have hnot : ∀ (x : Bool) (w : World), (Op.unary .not (.bool x)).run Try.prog w = .ok (.bool (!x)) w := fun _ _ => rfl
  go_enter Try.func3, Try.ntmps3
  go_wp2_with fail
  have hN := mod_range n 1000000 (by omega) (by omega)
  generalize wrap64 ((IntKind.u64.wrap n).tmod 1000000) = N at *
  obtain ⟨hN0, hN1⟩ := hN
  have ef : fresh N = ⟨N, 0, false⟩ := by unfold fresh; rw [if_neg (by omega)]
  have EF : Hid (fresh N = ⟨N, 0, false⟩) := ef
  clear ef
  refine (New_any N _).mono ?_
  rintro e w1 ⟨rfl, b1', o1⟩
  have b1 : Bud w1 w.heap.size ⟨N, 0, false⟩ := b1'.to EF.out
  have l1 := b1.lt
  generalize hB : w.heap.size = B0 at *
  have HB : Hid (w.heap.size = B0) := hB
  clear hB b1'
  go_wp2_with fail
  refine (New_any 7 _).mono ?_
  rintro e w2 ⟨rfl, b2', o2⟩
  have b2 : Bud w2 w1.heap.size ⟨7, 0, false⟩ := b2'
  have l2 := b2.lt
  have c1 := b1.only o2 (by simp)
  have O2 := o1.trans o2
  generalize w1.heap.size = B1 at *
  clear b2' o1 o2 b1
  go_wp2_with fail
  refine (New_any 0 _).mono ?_
  rintro e w3 ⟨rfl, b3', o3⟩
  have b3 : Bud w3 w2.heap.size ⟨0, 0, false⟩ := b3'
  have l3 := b3.lt
  have d1 := c1.only o3 (by simp)
  have d2 := b2.only o3 (by simp)
  have O3 := O2.trans o3
  generalize w2.heap.size = B2 at *
  clear b3' o3 b2 c1 O2
  go_wp2_with fail
  have ab3 : Arr (w3.alloc (.cells #[.pointer (some ⟨B0, 0, none⟩), .pointer (some ⟨B1, 0, none⟩), .pointer (some ⟨B2, 0, none⟩)] 26)) w3.heap.size 26 (fun k => if k = 0 then B0 else if k = 1 then B1 else B2) := Blk.new _ _ _
  have f1 : Bud (w3.alloc (.cells #[.pointer (some ⟨B0, 0, none⟩), .pointer (some ⟨B1, 0, none⟩), .pointer (some ⟨B2, 0, none⟩)] 26)) B0 ⟨N, 0, false⟩ := Blk.alloc d1 _
  have f2 : Bud (w3.alloc (.cells #[.pointer (some ⟨B0, 0, none⟩), .pointer (some ⟨B1, 0, none⟩), .pointer (some ⟨B2, 0, none⟩)] 26)) B1 ⟨7, 0, false⟩ := Blk.alloc d2 _
  have f3 : Bud (w3.alloc (.cells #[.pointer (some ⟨B0, 0, none⟩), .pointer (some ⟨B1, 0, none⟩), .pointer (some ⟨B2, 0, none⟩)] 26)) B2 ⟨0, 0, false⟩ := Blk.alloc b3 _
  have O4 : Only [] w (w3.alloc (.cells #[.pointer (some ⟨B0, 0, none⟩), .pointer (some ⟨B1, 0, none⟩), .pointer (some ⟨B2, 0, none⟩)] 26)) := O3.alloc _
  generalize w3.alloc (.cells #[.pointer (some ⟨B0, 0, none⟩), .pointer (some ⟨B1, 0, none⟩), .pointer (some ⟨B2, 0, none⟩)] 26) = w4 at *
  generalize w3.heap.size = Bb at *
  clear d1 d2 b3 O3
  have lB := Blk.lt ab3
  refine (RefNew_any N _).mono ?_
  rintro e w5 ⟨rfl, r5', o5⟩
  have r5 : Refb w5 w4.heap.size ⟨N, 0, false⟩ := r5'.to EF.out
  have ab5 : Arr w5 Bb 26 _ := Blk.only ab3 o5 (by simp)
  have g1 := f1.only o5 (by simp)
  have g2 := f2.only o5 (by simp)
  have g3 := f3.only o5 (by simp)
  have O5 := O4.trans o5
  have l5 := r5.lt
  generalize w4.heap.size = C0 at *
  clear r5' o5 f1 f2 f3 O4 ab3
  go_wp2_with fail
  refine (RefNew_any 7 _).mono ?_
  rintro e w6 ⟨rfl, r6', o6⟩
  have r6 : Refb w6 w5.heap.size ⟨7, 0, false⟩ := r6'
  have q5 := r5.only o6 (by simp)
  have ab6 : Arr w6 Bb 26 _ := Blk.only ab5 o6 (by simp)
  have h1 := g1.only o6 (by simp)
  have h2 := g2.only o6 (by simp)
  have h3 := g3.only o6 (by simp)
  have O6 := O5.trans o6
  have l6 := r6.lt
  generalize w5.heap.size = C1 at *
  clear r6' o6 g1 g2 g3 O5 ab5 r5
  go_wp2_with fail
  refine (RefNew_any 0 _).mono ?_
  rintro e w7 ⟨rfl, r7', o7⟩
  have r7 : Refb w7 w6.heap.size ⟨0, 0, false⟩ := r7'
  have p5 := q5.only o7 (by simp)
  have p6 := r6.only o7 (by simp)
  have ab7 : Arr w7 Bb 26 _ := Blk.only ab6 o7 (by simp)
  have k1 := h1.only o7 (by simp)
  have k2 := h2.only o7 (by simp)
  have k3 := h3.only o7 (by simp)
  have O7 := O6.trans o7
  have l7 := r7.lt
  generalize w6.heap.size = C2 at *
  clear r7' o7 h1 h2 h3 O6 ab6 q5 r6
  have hP : Play w (w7.alloc (.cells #[.pointer (some ⟨C0, 0, none⟩), .pointer (some ⟨C1, 0, none⟩), .pointer (some ⟨C2, 0, none⟩)] 29)) B0 Bb w7.heap.size
      (fun k => if k = 0 then ⟨N, 0, false⟩ else if k = 1 then ⟨7, 0, false⟩ else ⟨0, 0, false⟩) (fun k => if k = 0 then B0 else if k = 1 then B1 else B2) (fun k => if k = 0 then C0 else if k = 1 then C1 else C2) := by
    refine ⟨HB.out, O7.alloc _, by omega, by omega, Blk.alloc ab7 _, Blk.new _ _ _, fun k hk => ?_, fun k hk => ?_, fun k hk => ?_, fun k hk => ?_, fun i j hi hj => ?_, fun i j hi hj => ?_, ⟨fun k hk => ?_, fun k hk => ?_, fun k hk => ?_, ?_⟩⟩
    · match k, hk with
      | 0, _ => exact Blk.alloc k1 _
      | 1, _ => exact Blk.alloc k2 _
      | 2, _ => exact Blk.alloc k3 _
    · match k, hk with
      | 0, _ => exact Blk.alloc p5 _
      | 1, _ => exact Blk.alloc p6 _
      | 2, _ => exact Blk.alloc r7 _
    · split <;> (try split) <;> omega
    · split <;> (try split) <;> omega
    · intro e; (repeat' (split at e)) <;> omega
    · intro e; (repeat' (split at e)) <;> omega
    · split <;> (try split) <;> simp <;> omega
    · split <;> (try split) <;> simp <;> omega
    · split <;> (try split) <;> simp <;> omega
    · simp; omega
  go_wp2_with fail
  generalize w7.alloc (.cells #[.pointer (some ⟨C0, 0, none⟩), .pointer (some ⟨C1, 0, none⟩), .pointer (some ⟨C2, 0, none⟩)] 29) = w8 at *
  generalize w7.heap.size = Cc at *
  generalize (fun k : Nat => if k = 0 then (⟨N, 0, false⟩ : St) else if k = 1 then ⟨7, 0, false⟩ else ⟨0, 0, false⟩) = st at *
  generalize (fun k : Nat => if k = 0 then B0 else if k = 1 then B1 else B2) = bl at *
  generalize (fun k : Nat => if k = 0 then C0 else if k = 1 then C1 else C2) = cl at *
  clear r7 p5 p6 ab7 k1 k2 k3 O7 l7 l6 l5 lB l1 l2 l3
  go_loopw [7] (fun i wr => ∃ (k : Nat) (st : Nat → St) (bl cl : Nat → Nat), k ≤ len ∧ k ≤ 200 ∧ i = .int .i64 k ∧ Play w wr B0 Bb Cc st bl cl) (fun i _ => len - (intOf i).toNat)
  case atStart => exact ⟨0, st, bl, cl, Nat.zero_le _, Nat.zero_le _, rfl, hP⟩
  case round =>
    clear hP
    obtain ⟨k, st, bl, cl, hk, hk2, rfl, hP⟩ := hrel
    by_cases hlt : k < len ∧ k < 200
    · obtain ⟨hlt, hk3⟩ := hlt
      have hk4 : decide ((k : Int) < 200) = true := by simp; omega
      obtain ⟨A, o, rfl, hA, hcell⟩ := hx (by omega)
      have hc : ∀ i, i < 4 → wr.cell? ⟨A, o + k * 4 + i, none⟩ = some (.int .i64 (xs k i)) := fun i hi => (hP.only.cell (p := ⟨A, o + k * 4 + i, none⟩) (by rw [HB.out]; exact hA) (by simp)).trans (hcell k hlt i hi)
      have x0 : wr.cell? ⟨A, o + k * 4, none⟩ = some (.int .i64 (xs k 0)) := hc 0 (by omega)
      have x1 := hc 1 (by omega)
      have x2 := hc 2 (by omega)
      have x3 := hc 3 (by omega)
      clear hcell hx hc
      go_wp2_with fail
      have hQ : Play w (wr.alloc (.cells #[.int .i64 (xs k 0), .int .i64 (xs k 1), .int .i64 (xs k 2), .int .i64 (xs k 3)] 31)) B0 Bb Cc st bl cl := hP.by ((Only.refl [] wr).alloc _)
      have bA : Blk (wr.alloc (.cells #[.int .i64 (xs k 0), .int .i64 (xs k 1), .int .i64 (xs k 2), .int .i64 (xs k 3)] 31)) wr.heap.size 31 #[.int .i64 (xs k 0), .int .i64 (xs k 1), .int .i64 (xs k 2), .int .i64 (xs k 3)] := Blk.new _ _ _
      generalize wr.alloc (.cells #[.int .i64 (xs k 0), .int .i64 (xs k 1), .int .i64 (xs k 2), .int .i64 (xs k 3)] 31) = W at *
      generalize wr.heap.size = Ab at *
      clear x0 x1 x2 x3 hP
      generalize xs k 0 = kd at *
      generalize xs k 1 = p1 at *
      generalize xs k 2 = nn at *
      generalize xs k 3 = p2 at *
      have a0 : W.cell? ⟨Ab, 0, none⟩ = some (.int .i64 kd) := Blk.cell bA 0
      have a1 : W.cell? ⟨Ab, 1, none⟩ = some (.int .i64 p1) := Blk.cell bA 1
      have a2 : W.cell? ⟨Ab, 2, none⟩ = some (.int .i64 nn) := Blk.cell bA 2
      have a3 : W.cell? ⟨Ab, 3, none⟩ = some (.int .i64 p2) := Blk.cell bA 3
      go_quiet (fail)
      have hX := mod_range p1 3 (by omega) (by omega)
      have hY := mod_range p2 3 (by omega) (by omega)
      obtain ⟨hX0, hX1⟩ := hX
      obtain ⟨hY0, hY1⟩ := hY
      generalize wrap64 ((IntKind.u64.wrap p1).tmod 3) = X at *
      generalize wrap64 ((IntKind.u64.wrap p2).tmod 3) = Y at *
      obtain ⟨x, rfl⟩ := Int.eq_ofNat_of_zero_le hX0
      obtain ⟨y, rfl⟩ := Int.eq_ofNat_of_zero_le hY0
      have hx3 : x < 3 := by omega
      have hy3 : y < 3 := by omega
      have hR : Play w (W.drewN nq) B0 Bb Cc st bl cl := hQ.by ((Only.refl [] W).drewN nq)
      have bR : Blk (W.drewN nq) Ab 31 #[.int .i64 kd, .int .i64 p1, .int .i64 nn, .int .i64 p2] := bA
      generalize W.drewN nq = V at *
      clear hQ bA a0 a1 a2 a3
      have a0 : V.cell? ⟨Ab, 0, none⟩ = some (.int .i64 kd) := Blk.cell bR 0
      have a2 : V.cell? ⟨Ab, 2, none⟩ = some (.int .i64 nn) := Blk.cell bR 2
      have bx : V.cell? ⟨Bb, x, none⟩ = some (.pointer (some ⟨bl x, 0, none⟩)) := hR.B.cell hx3
      have by_ : V.cell? ⟨Bb, y, none⟩ = some (.pointer (some ⟨bl y, 0, none⟩)) := hR.B.cell hy3
      have cx : V.cell? ⟨Cc, x, none⟩ = some (.pointer (some ⟨cl x, 0, none⟩)) := hR.C.cell hx3
      have cy : V.cell? ⟨Cc, y, none⟩ = some (.pointer (some ⟨cl y, 0, none⟩)) := hR.C.cell hy3
      have hK : 0 ≤ (IntKind.u64.wrap kd).tmod 3 ∧ (IntKind.u64.wrap kd).tmod 3 < 3 := by
        rw [IntKind.wrap_u64, Int.tmod_eq_emod_of_nonneg (Int.emod_nonneg _ (by omega))]; omega
      have nAb : ∀ i, i < 3 → Ab ≠ bl i := fun i hi => Blk.ne bR (hR.b i hi) (by decide)
      have nAc : ∀ i, i < 3 → Ab ≠ cl i := fun i hi => Blk.ne bR (hR.c i hi) (by decide)
      have nAB : Ab ≠ Bb := Blk.ne bR hR.B (by decide)
      have nAC : Ab ≠ Cc := Blk.ne bR hR.C (by decide)
      by_cases k0 : (IntKind.u64.wrap kd).tmod 3 = 0
      · go_wp2_with fail
        have okx : (st x).ok := hR.sums.ok hx3
        have sx : Bud V.drew (bl x) (st x) := Blk.drew (hR.b x hx3)
        have rx : Refb V.drew (cl x) (st x) := Blk.drew (hR.c x hx3)
        have n1 : Bb ∉ [bl x] := by simp; exact hR.bB hx3
        have n2 : Ab ∉ [bl x] := by simp; exact nAb x hx3
        have n3 : Cc ∉ [bl x] := by simp; exact hR.bC hx3
        have n4 : cl x ∉ [bl x] := by simp; exact fun e => hR.bc hx3 hx3 e.symm
        have m1 : Bb ∉ [cl x] := by simp; exact hR.cB hx3
        have m2 : Ab ∉ [cl x] := by simp; exact nAc x hx3
        have m3 : Cc ∉ [cl x] := by simp; exact hR.cC hx3
        go_region_held3 (fun v => v.cell? ⟨Bb, x, none⟩ = some (.pointer (some ⟨bl x, 0, none⟩)) ∧ v.cell? ⟨Ab, 2, none⟩ = some (.int .i64 nn) ∧ v.cell? ⟨Cc, x, none⟩ = some (.pointer (some ⟨cl x, 0, none⟩)))
          (first | go_keep | exact keep3 o2 (keep3 o1 ⟨bx, a2, cx⟩ n1 n2 n3) m1 m2 m3 | exact keep3 o1 ⟨bx, a2, cx⟩ n1 n2 n3)
          (first
            | (go_at_call 10; refine (Spend_any (bl x) (st x) nn _ sx okx).mono ?_; rintro e w1 ⟨rfl, b1, o1⟩)
            | (go_at_call 11; refine (RefSpend_any (cl x) (st x) nn _ (rx.only o1 n4) okx).mono ?_; rintro e w2 ⟨rfl, c2, o2⟩))
        have hZ := (hR.by (Only.refl [] V).drew).spend hx3 nn b1 o1 c2 o2
        clear sx rx n1 n2 n3 n4 m1 m2 m3 b1 o1 c2 o2 hR bR a0 a2 bx by_ cx cy nAb nAc nAB nAC okx
        generalize upd st x ((st x).spend nn) = sz at *
        go_wp2_with fail
        go_loopw [11] (fun j wq => ∃ m : Nat, m ≤ 3 ∧ j = .int .i64 m ∧ Play w wq B0 Bb Cc sz bl cl) (fun j _ => 3 - (intOf j).toNat)
        case atStart => exact ⟨0, by omega, rfl, hZ⟩
        case round =>
          clear hZ
          obtain ⟨m, hm, rfl, hZ⟩ := hrel
          by_cases hm3 : m < 3
          · have bm := hZ.B.cell hm3
            have cm := hZ.C.cell hm3
            have ub := hZ.b m hm3
            have uc := hZ.c m hm3
            have i0 : (0 : Int) ≤ (m : Int) := by omega
            have i3 : (m : Int) < 3 := by omega
            go_wp2_with fail
            go_quiet ((go_at_call 16; exact Calls.quiet_of (same_any _ _ _ _ (ub.drewN _) (uc.drewN _))))
            have hZ' := hZ.by ((Only.refl [] _).drewN nq)
            go_wp2_with fail
            go_roundw
            case rel => exact ⟨m + 1, by omega, by go_num, hZ'⟩
            case measure => simp [intOf]; omega
          · go_wp2_with fail
            go_roundw
            case rel => exact ⟨k + 1, _, _, _, by omega, by omega, by go_num, hZ⟩
            case measure => simp [intOf]; omega
      by_cases k1 : (IntKind.u64.wrap kd).tmod 3 = 1
      · go_wp2_with fail
        have okx : (st x).ok := hR.sums.ok hx3
        have sx : Bud V.drew (bl x) (st x) := Blk.drew (hR.b x hx3)
        have rx : Refb V.drew (cl x) (st x) := Blk.drew (hR.c x hx3)
        have n1 : Bb ∉ [bl x] := by simp; exact hR.bB hx3
        have n2 : Ab ∉ [bl x] := by simp; exact nAb x hx3
        have n3 : Cc ∉ [bl x] := by simp; exact hR.bC hx3
        have n4 : cl x ∉ [bl x] := by simp; exact fun e => hR.bc hx3 hx3 e.symm
        have m1 : Bb ∉ [cl x] := by simp; exact hR.cB hx3
        have m2 : Ab ∉ [cl x] := by simp; exact nAc x hx3
        have m3 : Cc ∉ [cl x] := by simp; exact hR.cC hx3
        have AB : Arr V.drew Bb 26 bl := Blk.drew hR.B
        have AC : Arr V.drew Cc 29 cl := Blk.drew hR.C
        have AA : Blk V.drew Ab 31 #[.int .i64 kd, .int .i64 p1, .int .i64 nn, .int .i64 p2] := Blk.drew bR
        have nBC : ¬ Bb = Cc := hR.BC
        have nCB : ¬ Cc = Bb := fun e => hR.BC e.symm
        refine region_meets 99 16 (fun w' => ∃ D E : Nat, Play w w' B0 Bb Cc (upd (upd st x ((st x).less nn)) y ⟨(st x).some nn, 0, false⟩) (upd bl y D) (upd cl y E)) ?_ ?_
        · skip
          go_region_with (first
              | (go_at_call 12
                 refine (Split_any (bl x) (st x) nn _ sx okx).mono ?_
                 rintro e w1 ⟨D, hD, rfl, b1, d1, o1⟩
                 have q1 : w1.cell? ⟨Ab, 2, none⟩ = some (.int .i64 nn) := Blk.cell (Blk.only AA o1 n2) 2
                 have cx1 : w1.cell? ⟨Cc, x, none⟩ = some (.pointer (some ⟨cl x, 0, none⟩)) := Arr.cell (Arr.only AC o1 n3) hx3)
              | (go_at_call 13
                 refine (RefSplit_any (cl x) (st x) nn _ (rx.only o1 n4) okx).mono ?_
                 rintro e w2 ⟨E, hE, rfl, c2, e2, o2⟩
                 have by2 : w2.cell? ⟨Bb, y, none⟩ = some (.pointer (some ⟨bl y, 0, none⟩)) := Arr.cell (Arr.only (Arr.only AB o1 n1) o2 m1) hy3
                 have cy2 : w2.cell? ⟨Cc, y, none⟩ = some (.pointer (some ⟨cl y, 0, none⟩)) := Arr.cell (Arr.only (Arr.only AC o1 n3) o2 m3) hy3
                 have zb2 : w2.frozen? ⟨Bb, y, none⟩ = false := Blk.frozen (Arr.only (Arr.only AB o1 n1) o2 m1) y
                 have zc2 : w2.frozen? ⟨Cc, y, none⟩ = false := Blk.frozen (Arr.only (Arr.only AC o1 n3) o2 m3) y
                 have q2 : w2.cell? ⟨Ab, 2, none⟩ = some (.int .i64 nn) := Blk.cell (Blk.only (Blk.only AA o1 n2) o2 m2) 2))
          all_goals
            have hZ := (hR.by (Only.refl [] V).drew).split hx3 hy3 nn b1 d1 hD o1 c2 e2 hE o2
            exact ⟨⟨D, E, hZ⟩, [_, _, _, _, _, _, _, _, _, _, _, _, _, _, _, _], rfl, rfl⟩
        · intro vs w3 hvs hw3
          obtain ⟨D, E, hZ⟩ := hw3
          clear sx rx n1 n2 n3 n4 m1 m2 m3 AB AC AA nBC nCB hR bR a0 a2 bx by_ cx cy nAb nAc nAB nAC okx
          match vs, hvs with
          | [v0, v1, v2, v3, v4, v5, v6, v7, v8, v9, v10, v11, v12, v13, v14, v15], _ =>
            simp only [List.take_succ_cons, List.take_zero, List.drop_succ_cons, List.drop_zero, List.cons_append, List.nil_append]
            generalize upd bl y D = bl' at *
            generalize upd cl y E = cl' at *
            generalize upd (upd st x ((st x).less nn)) y ⟨(st x).some nn, 0, false⟩ = sz at *
            go_wp2_with fail
            go_loopw [11] (fun j wq => ∃ m : Nat, m ≤ 3 ∧ j = .int .i64 m ∧ Play w wq B0 Bb Cc sz bl' cl') (fun j _ => 3 - (intOf j).toNat)
            case atStart => exact ⟨0, by omega, rfl, hZ⟩
            case round =>
              clear hZ
              obtain ⟨m, hm, rfl, hZ⟩ := hrel
              by_cases hm3 : m < 3
              · have bm := hZ.B.cell hm3
                have cm := hZ.C.cell hm3
                have ub := hZ.b m hm3
                have uc := hZ.c m hm3
                have i0 : (0 : Int) ≤ (m : Int) := by omega
                have i3 : (m : Int) < 3 := by omega
                go_wp2_with fail
                go_quiet ((go_at_call 16; exact Calls.quiet_of (same_any _ _ _ _ (ub.drewN _) (uc.drewN _))))
                have hZ' := hZ.by ((Only.refl [] _).drewN nq)
                go_wp2_with fail
                go_roundw
                case rel => exact ⟨m + 1, by omega, by go_num, hZ'⟩
                case measure => simp [intOf]; omega
              · go_wp2_with fail
                go_roundw
                case rel => exact ⟨k + 1, _, _, _, by omega, by omega, by go_num, hZ⟩
                case measure => simp [intOf]; omega
      · by_cases hxy : x = y
        · subst hxy
          obtain ⟨z, hz3, hzx⟩ : ∃ z, z < 3 ∧ z ≠ x := if h : x = 0 then ⟨1, by omega, by omega⟩ else ⟨0, by omega, by omega⟩
          have hxn : (((x : Int) != (x : Int)) = false) := by simp
          go_wp2_with fail
          have lB : Bb < V.heap.size := Blk.lt hR.B
          have lx := (hR.b x hx3).lt
          have lz := (hR.b z hz3).lt
          have okx : (st x).ok := hR.sums.ok hx3
          have okz : (st z).ok := hR.sums.ok hz3
          have h2 := hR.sums.two hx3 hz3 (Ne.symm hzx)
          have g0 := hR.sums.l0 x hx3
          have g1 := hR.sums.l0 z hz3
          have g2 := hR.sums.t0 x hx3
          have g3 := hR.sums.t1 x hx3
          have g4 := hR.sums.t0 z hz3
          have g5 := hR.sums.t1 z hz3
          have okm : ((st x).more (st z)).ok := ⟨by simp [St.more]; omega, by simp [St.more]; omega, by simp [St.more]; omega, by simp [St.more]; omega⟩
          have okg : (st z).gone.ok := ⟨by simp [St.gone], by simp [St.gone], by simp [St.gone]; omega, by simp [St.gone]; omega⟩
          have hBx : bl x ≠ bl z := fun e => hzx (hR.ib z x hz3 hx3 e.symm)
          clear h2 g0 g1 g2 g3 g4 g5
          have e1 : (V.drew.alloc (.cells #[.pointer (some ⟨bl x, 0, none⟩)] 24)).cell? ⟨Bb, x, none⟩ = some (.pointer (some ⟨bl x, 0, none⟩)) := Arr.cell (Arr.alloc (Arr.drew hR.B) _) hx3
          go_region_held3 (fun v => v.cell? ⟨Bb, x, none⟩ = some (.pointer (some ⟨bl x, 0, none⟩)))
            (first | go_keep | exact q1 | exact e1)
            (first
              | (go_at_call 14
                 refine (Back_self (bl x) (bl z) V.heap.size 1 (st x) (st z) _ (Blk.alloc (Blk.drew (hR.b x hx3)) _) (Blk.alloc (Blk.drew (hR.b z hz3)) _) hBx (by omega) (by omega) (by simp) okx okz okm okg (Blk.cell (Blk.new V.drew 24 #[.pointer (some ⟨bl x, 0, none⟩)]) 0)).mono ?_
                 rintro e w1 ⟨rfl, b1, c1, o1⟩
                 have q1 : w1.cell? ⟨Bb, x, none⟩ = some (.pointer (some ⟨bl x, 0, none⟩)) := Arr.cell (Arr.only (Arr.alloc (Arr.drew hR.B) _) o1 (by simp; exact ⟨hR.bB hx3, hR.bB hz3⟩)) hx3))
          have hZ : Play w w1 B0 Bb Cc st bl cl := by
            refine (hR.by ((Only.refl [] V).drew.alloc _)).turn o1 (by simp; exact ⟨hR.lb x hx3, hR.lb z hz3⟩) (by simp; exact ⟨hR.bB hx3, hR.bB hz3⟩) (by simp; exact ⟨hR.bC hx3, hR.bC hz3⟩) (fun i hi => ?_) (fun i hi => ?_) hR.sums
            · by_cases i1 : i = x
              · subst i1; exact b1
              · by_cases i2 : i = z
                · subst i2; exact c1
                · exact Bud.only (Blk.alloc (Blk.drew (hR.b i hi)) _) o1 (by simp; exact ⟨fun e => i1 (hR.ib i x hi hx3 e), fun e => i2 (hR.ib i z hi hz3 e)⟩)
            · exact Refb.only (Blk.alloc (Blk.drew (hR.c i hi)) _) o1 (by simp; exact ⟨fun e => hR.bc hx3 hi e.symm, fun e => hR.bc hz3 hi e.symm⟩)
          clear b1 c1 o1 q1 e1 hR bR a0 a2 bx by_ cx cy nAb nAc nAB nAC okx okz okm okg hBx lB lx lz
          generalize st = sz at *
          go_wp2_with fail
          go_loopw [11] (fun j wq => ∃ m : Nat, m ≤ 3 ∧ j = .int .i64 m ∧ Play w wq B0 Bb Cc sz bl cl) (fun j _ => 3 - (intOf j).toNat)
          case atStart => exact ⟨0, by omega, rfl, hZ⟩
          case round =>
            clear hZ
            obtain ⟨m, hm, rfl, hZ⟩ := hrel
            by_cases hm3 : m < 3
            · have bm := hZ.B.cell hm3
              have cm := hZ.C.cell hm3
              have ub := hZ.b m hm3
              have uc := hZ.c m hm3
              have i0 : (0 : Int) ≤ (m : Int) := by omega
              have i3 : (m : Int) < 3 := by omega
              go_wp2_with fail
              go_quiet ((go_at_call 16; exact Calls.quiet_of (same_any _ _ _ _ (ub.drewN _) (uc.drewN _))))
              have hZ' := hZ.by ((Only.refl [] _).drewN nq)
              go_wp2_with fail
              go_roundw
              case rel => exact ⟨m + 1, by omega, by go_num, hZ'⟩
              case measure => simp [intOf]; omega
            · go_wp2_with fail
              go_roundw
              case rel => exact ⟨k + 1, _, _, _, by omega, by omega, by go_num, hZ⟩
              case measure => simp [intOf]; omega
        · have hxn : (((x : Int) != (y : Int)) = true) := by simp; omega
          go_wp2_with fail
          have lB : Bb < V.heap.size := Blk.lt hR.B
          have lx := (hR.b x hx3).lt
          have ly := (hR.b y hy3).lt
          have okx : (st x).ok := hR.sums.ok hx3
          have oky : (st y).ok := hR.sums.ok hy3
          have h2 := hR.sums.two hx3 hy3 hxy
          have g0 := hR.sums.l0 x hx3
          have g1 := hR.sums.l0 y hy3
          have g2 := hR.sums.t0 x hx3
          have g3 := hR.sums.t1 x hx3
          have g4 := hR.sums.t0 y hy3
          have g5 := hR.sums.t1 y hy3
          have okm : ((st x).more (st y)).ok := ⟨by simp [St.more]; omega, by simp [St.more]; omega, by simp [St.more]; omega, by simp [St.more]; omega⟩
          have okg : (st y).gone.ok := ⟨by simp [St.gone], by simp [St.gone], by simp [St.gone]; omega, by simp [St.gone]; omega⟩
          have hBx : bl x ≠ bl y := fun e => hxy (hR.ib x y hx3 hy3 e)
          have hCx : cl x ≠ cl y := fun e => hxy (hR.ic x y hx3 hy3 e)
          clear h2 g0 g1 g2 g3 g4 g5
          have e1 : (V.drew.alloc (.cells #[.pointer (some ⟨bl y, 0, none⟩)] 24)).cell? ⟨Bb, x, none⟩ = some (.pointer (some ⟨bl x, 0, none⟩)) := Arr.cell (Arr.alloc (Arr.drew hR.B) _) hx3
          have e2 : (V.drew.alloc (.cells #[.pointer (some ⟨bl y, 0, none⟩)] 24)).cell? ⟨Bb, y, none⟩ = some (.pointer (some ⟨bl y, 0, none⟩)) := Arr.cell (Arr.alloc (Arr.drew hR.B) _) hy3
          go_region_held3 (fun v => v.cell? ⟨Bb, x, none⟩ = some (.pointer (some ⟨bl x, 0, none⟩)) ∧ v.cell? ⟨Bb, y, none⟩ = some (.pointer (some ⟨bl y, 0, none⟩)))
            (first | go_keep | exact ⟨q1, q2⟩ | exact ⟨e1, e2⟩)
            (first
              | (go_at_call 14
                 refine (Back_one (bl x) (bl y) V.heap.size 1 (st x) (st y) _ (Blk.alloc (Blk.drew (hR.b x hx3)) _) (Blk.alloc (Blk.drew (hR.b y hy3)) _) hBx (by omega) (by omega) (by simp) okx oky okm okg (Blk.cell (Blk.new V.drew 24 #[.pointer (some ⟨bl y, 0, none⟩)]) 0)).mono ?_
                 rintro e w1 ⟨rfl, b1, c1, o1⟩
                 have q1 : w1.cell? ⟨Bb, x, none⟩ = some (.pointer (some ⟨bl x, 0, none⟩)) := Arr.cell (Arr.only (Arr.alloc (Arr.drew hR.B) _) o1 (by simp; exact ⟨hR.bB hx3, hR.bB hy3⟩)) hx3
                 have q2 : w1.cell? ⟨Bb, y, none⟩ = some (.pointer (some ⟨bl y, 0, none⟩)) := Arr.cell (Arr.only (Arr.alloc (Arr.drew hR.B) _) o1 (by simp; exact ⟨hR.bB hx3, hR.bB hy3⟩)) hy3))
          have AC1 : Arr w1 Cc 29 cl := Arr.only (Arr.alloc (Arr.drew hR.C) _) o1 (by simp; exact ⟨hR.bC hx3, hR.bC hy3⟩)
          have cx1 : w1.cell? ⟨Cc, x, none⟩ = some (.pointer (some ⟨cl x, 0, none⟩)) := AC1.cell hx3
          have cy1 : w1.cell? ⟨Cc, y, none⟩ = some (.pointer (some ⟨cl y, 0, none⟩)) := AC1.cell hy3
          have rx1 : Refb w1.drew (cl x) (st x) := Blk.drew (Refb.only (Blk.alloc (Blk.drew (hR.c x hx3)) _) o1 (by simp; exact ⟨fun e => hR.bc hx3 hx3 e.symm, fun e => hR.bc hy3 hx3 e.symm⟩))
          have ry1 : Refb w1.drew (cl y) (st y) := Blk.drew (Refb.only (Blk.alloc (Blk.drew (hR.c y hy3)) _) o1 (by simp; exact ⟨fun e => hR.bc hx3 hy3 e.symm, fun e => hR.bc hy3 hy3 e.symm⟩))
          clear q1 q2 e1 e2 bx by_ cx cy
          go_wp2_with fail
          go_region_held3 (fun v => v.cell? ⟨Cc, x, none⟩ = some (.pointer (some ⟨cl x, 0, none⟩)) ∧ v.cell? ⟨Cc, y, none⟩ = some (.pointer (some ⟨cl y, 0, none⟩)))
            (first | go_keep | exact ⟨q1, q2⟩)
            (first
              | (go_at_call 15
                 refine (RefBack_any (cl x) (cl y) (st x) (st y) _ rx1 ry1 hCx okx oky).mono ?_
                 rintro e w2 ⟨rfl, c2, d2, o2⟩
                 have q1 : w2.cell? ⟨Cc, x, none⟩ = some (.pointer (some ⟨cl x, 0, none⟩)) := Arr.cell (Arr.only (Arr.drew AC1) o2 (by simp; exact ⟨hR.cC hx3, hR.cC hy3⟩)) hx3
                 have q2 : w2.cell? ⟨Cc, y, none⟩ = some (.pointer (some ⟨cl y, 0, none⟩)) := Arr.cell (Arr.only (Arr.drew AC1) o2 (by simp; exact ⟨hR.cC hx3, hR.cC hy3⟩)) hy3))
          have hZ := (hR.by ((Only.refl [] V).drew.alloc (.cells #[.pointer (some ⟨bl y, 0, none⟩)] 24))).back hx3 hy3 hxy (Blk.drew b1) (Blk.drew c1) o1.drew c2 d2 o2
          clear b1 c1 o1 q1 q2 c2 d2 o2 AC1 cx1 cy1 rx1 ry1 hR bR a0 a2 nAb nAc nAB nAC okx oky okm okg hBx hCx lB lx ly
          generalize upd (upd st x ((st x).more (st y))) y (st y).gone = sz at *
          go_wp2_with fail
          go_loopw [11] (fun j wq => ∃ m : Nat, m ≤ 3 ∧ j = .int .i64 m ∧ Play w wq B0 Bb Cc sz bl cl) (fun j _ => 3 - (intOf j).toNat)
          case atStart => exact ⟨0, by omega, rfl, hZ⟩
          case round =>
            clear hZ
            obtain ⟨m, hm, rfl, hZ⟩ := hrel
            by_cases hm3 : m < 3
            · have bm := hZ.B.cell hm3
              have cm := hZ.C.cell hm3
              have ub := hZ.b m hm3
              have uc := hZ.c m hm3
              have i0 : (0 : Int) ≤ (m : Int) := by omega
              have i3 : (m : Int) < 3 := by omega
              go_wp2_with fail
              go_quiet ((go_at_call 16; exact Calls.quiet_of (same_any _ _ _ _ (ub.drewN _) (uc.drewN _))))
              have hZ' := hZ.by ((Only.refl [] _).drewN nq)
              go_wp2_with fail
              go_roundw
              case rel => exact ⟨m + 1, by omega, by go_num, hZ'⟩
              case measure => simp [intOf]; omega
            · go_wp2_with fail
              go_roundw
              case rel => exact ⟨k + 1, _, _, _, by omega, by omega, by go_num, hZ⟩
              case measure => simp [intOf]; omega
    · by_cases h1 : k < len
      all_goals
        go_wp2_with fail
        refine (known_any _).mono ?_
        rintro e w9 ⟨rfl, o9⟩
        go_wp2_with fail
        go_ret
        exact ⟨rfl, (hP.only.trans o9).below (by have := HB.out; omega) (by simp)⟩

end Go.Proofs.Ytcjeccmnekmipaa
