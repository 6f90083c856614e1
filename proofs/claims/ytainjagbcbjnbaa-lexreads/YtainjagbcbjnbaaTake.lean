/-
  The contracts of a reader's Take, of both sides, and of a nil reader's.
-/
import Derived.Test.YtainjagbcbjnbaaFails
namespace Go.Proofs.Ytainjagbcbjnbaa
open Go Go.RowKit Go.Shelf Go.Sort Plain Lex

/-- A slice of n texts, as it came in. -/
def Strs (w : World) (a : Option Addr) (n : Nat) (xs : Nat → ByteArray) : Prop :=
  0 < n → ∃ A o, a = some ⟨A, o, none⟩ ∧ A < w.heap.size ∧ ∀ j, j < n → w.cell? ⟨A, o + j, none⟩ = some (.string (xs j))
theorem Strs.below {w w' : World} {a : Option Addr} {n : Nat} {xs : Nat → ByteArray} (h : Strs w a n xs) (hb : Below w.heap.size w w') : Strs w' a n xs := fun hn => by
  obtain ⟨A, o, e, hl, hc⟩ := h hn
  exact ⟨A, o, e, Nat.lt_of_lt_of_le hl hb.size, fun j hj => (hb.cell (p := ⟨A, o + j, none⟩) hl).trans (hc j hj)⟩

/-- Is the token a word or a sign of just that text? -/
def okT (t : Tok) (x : ByteArray) : Bool := (decide (t.kind = 1) || decide (t.kind = 3)) && (t.text.toList == x.toList)
/-- Are the next tokens just these? -/
def takes (ts : List Tok) (s : ByteArray) (p : Nat) (xs : Nat → ByteArray) (n : Nat) : Prop := ∀ j, j < n → okT (pk ts s p (j : Int)) (xs j) = true

theorem takes_le {ts : List Tok} {s : ByteArray} {p : Nat} {xs : Nat → ByteArray} {n : Nat} (h : takes ts s p xs n) (hp : p ≤ ts.length) : p + n ≤ ts.length := by
  rcases Nat.eq_zero_or_pos n with rfl | hn
  · omega
  · have h1 := h (n - 1) (by omega)
    by_cases hlt : p + (n - 1) < ts.length
    · omega
    · exfalso
      have : pk ts s p ((n - 1 : Nat) : Int) = endT s := by
        unfold pk
        rw [if_neg (by omega), List.getElem?_eq_none (by omega)]; rfl
      rw [this] at h1
      simp [okT, endT] at h1
/-- How Take goes on. -/
theorem takes_step {ts : List Tok} {s : ByteArray} {p : Nat} {xs : Nat → ByteArray} {k : Nat} (h : takes ts s p xs k) (h1 : okT (pk ts s p (k : Int)) (xs k) = true) : takes ts s p xs (k + 1) := fun j hj => by
  by_cases e : j = k
  · subst e; exact h1
  · exact h j (by omega)

/-- What Take tells and does. -/
def TakeEnds (w' : World) (t e : TypeId) (R base : Nat) (v : Value) (ts : List Tok) (s : ByteArray) (p : Nat) (xs : Nat → ByteArray) (n : Nat) (r : Bool) : Prop :=
  (r = true ∧ takes ts s p xs n ∧ Rd w' t e R base v ts s (p + n)) ∨ (r = false ∧ ¬ takes ts s p xs n ∧ Rd w' t e R base v ts s p)



theorem Only.drewN {S : List Nat} {a w : World} (h : Only S a w) (k : Nat) : Only S a (w.drewN k) := ⟨h.os, h.tape, h.output, h.size, h.block⟩
theorem below_drewN {n : Nat} {a w : World} (h : Below n a w) (k : Nat) : Below n a (w.drewN k) := ⟨h.os, h.tape, h.output, h.size, h.block⟩
theorem okT_parts (t : Tok) (x : ByteArray) (d1 d3 dx : Bool) (h1 : ((t.kind : Int) != 1) = d1) (h3 : ((t.kind : Int) != 3) = d3) (hx : (t.text.toList != x.toList) = dx) : okT t x = ((!d1 || !d3) && !dx) := by
  have e1 : decide (t.kind = 1) = !d1 := by rw [← h1, Bool.eq_iff_iff]; simp; omega
  have e3 : decide (t.kind = 3) = !d3 := by rw [← h3, Bool.eq_iff_iff]; simp; omega
  have ex : (t.text.toList == x.toList) = !dx := by rw [← hx]; simp [bne]
  unfold okT
  rw [e1, e3, ex]

set_option maxRecDepth 100000 in
set_option maxHeartbeats 3200000 in
theorem Take_calls (R base : Nat) (v : Value) (ts : List Tok) (s : ByteArray) (p : Nat) (a : Option Addr) (n cap : Nat) (xs : Nat → ByteArray) (hn : n ≤ 5) (hcap : n ≤ cap) (w : World) (hR : Rd w 90 46 R base v ts s p) (hS : Strs w a n xs) :
    Calls Try.prog 24 #[.pointer (some ⟨R, 0, none⟩), .slice a n cap] w fun e w' => ∃ r, e = .returned (.bool r) ∧ TakeEnds w' 90 46 R base v ts s p xs n r ∧ Only [R] w w' := by
  obtain ⟨N, hN⟩ : ∃ N, w.heap.size = N := ⟨_, rfl⟩
  have hRN : R < N := by rw [← hN]; exact hR.blk.lt
  have hle := hR.le
  have hfew := hR.few
  have cL := fun n w h => look_calls R base v ts s p n w h
  have CL : Hid _ := cL
  clear cL
  go_enter Try.func24, Try.ntmps24
  go_wp2
  go_loopw [10] (fun i wr => ∃ k : Nat, k ≤ n ∧ i = .int .i64 k ∧ Hid (takes ts s p xs k) ∧ Rd wr 90 46 R base v ts s p ∧ Strs wr a n xs ∧ Below N w wr)
    (fun i _ => n - (intOf i).toNat)
  case atStart => exact ⟨0, Nat.zero_le _, rfl, fun j hj => absurd hj (by omega), hR, hS, Below.refl _ _⟩
  case round =>
    clear hR hS
    obtain ⟨k, hk, rfl, htk, hRr, hSr, hbl⟩ := hrel
    by_cases hlt : k < n
    · obtain ⟨A, o, rfl, hA, hc⟩ := hSr (by omega)
      have q := hc k hlt
      have cK := CL.out (k : Int)
      have hstep := fun h => takes_step (ts := ts) (s := s) (p := p) (xs := xs) htk.out h
      have hno : okT (pk ts s p (k : Int)) (xs k) = false → ¬ takes ts s p xs n := fun h h2 => by have := h2 k hlt; rw [h] at this; cases this
      generalize pk ts s p (k : Int) = t at *
      have CK : Hid _ := cK
      have HS : Hid _ := hstep
      have HNo : Hid _ := hno
      clear cK hstep hno
      have y1 : (0 : Int) ≤ (k : Int) := by omega
      have y2 : (k : Int) < (n : Int) := by omega
      go_wp2_with fail
      refine (CK.out _ hRr).mono ?_
      rintro e w1 ⟨rfl, hb1⟩
      have hR1 := hRr.below hb1
      have hS1 := hSr.below hb1
      have hb2 : Below N w w1 := hbl.trans (hb1.mono (by have := hbl.size; omega))
      have hA1 : A < w1.heap.size := Nat.lt_of_lt_of_le hA hb1.size
      have q1 := (hb1.cell (p := ⟨A, o + k, none⟩) hA).trans q
      have qa : ∀ ob, (w1.alloc ob).cell? ⟨A, o + k, none⟩ = some (.string (xs k)) := fun ob => (World.cell?_of_block (w := w1) (Below.heap_alloc w1 ob A hA1)).trans q1
      have hSa : ∀ (h : 0 < n) (ob : Obj), ∃ A' o', some (⟨A, o, none⟩ : Addr) = some ⟨A', o', none⟩ ∧ A' < (w1.alloc ob).heap.size ∧ ∀ j, j < n → (w1.alloc ob).cell? ⟨A', o' + j, none⟩ = some (.string (xs j)) := fun h ob => hS1.below ((Below.refl _ _).alloc (Nat.le_refl _) ob) h
      have hNw : N ≤ w1.heap.size := by have := hb2.size; omega
      have hBa : ∀ ob, Below N w (w1.alloc ob) := fun ob => hb2.alloc hNw ob
      obtain ⟨M, hM⟩ : ∃ M, w1.heap.size = M := ⟨_, rfl⟩
      have hOa : ∀ ob, Only [R] w (w1.alloc ob) := fun ob => (Only.of_below' (by rw [hN]; exact hb2)).alloc ob
      have HBa : Hid _ := hBa
      have HOa : Hid _ := hOa
      have HSa : Hid _ := hSa
      clear hb1 q1 hc q hSr hRr hbl hb2 hBa hOa hSa hS1
      unfold agg
      obtain ⟨d1, hd1⟩ : ∃ d, ((t.kind : Int) != 1) = d := ⟨_, rfl⟩
      obtain ⟨d3, hd3⟩ : ∃ d, ((t.kind : Int) != 3) = d := ⟨_, rfl⟩
      obtain ⟨dx, hdx⟩ : ∃ d, (t.text.toList != (xs k).toList) = d := ⟨_, rfl⟩
      have hok : okT t (xs k) = ((!d1 || !d3) && !dx) := okT_parts t (xs k) d1 d3 dx hd1 hd3 hdx
      have hdy : (t.text.toList == (xs k).toList) = !dx := by rw [← hdx]; simp [bne]
      generalize xs k = x at *
      have HK2 : Hid _ := hok
      clear hok
      cases dx with
      | true =>
        have HNO : Hid (¬ takes ts s p xs n) := HNo.out (by rw [HK2.out]; simp)
        cases d1 with
        | false => 
            go_wp2
            go_ret
            exact ⟨false, rfl, .inr ⟨rfl, HNO.out, ⟨hR1.blk.alloc _, hR1.row.alloc _, hR1.le, hR1.few, hR1.short, hR1.apart, hR1.small⟩⟩, HOa.out _⟩
        | true =>
          cases d3 with
          | false => 
            go_wp2
            go_ret
            exact ⟨false, rfl, .inr ⟨rfl, HNO.out, ⟨hR1.blk.alloc _, hR1.row.alloc _, hR1.le, hR1.few, hR1.short, hR1.apart, hR1.small⟩⟩, HOa.out _⟩
          | true => 
            go_wp2
            go_ret
            exact ⟨false, rfl, .inr ⟨rfl, HNO.out, ⟨hR1.blk.alloc _, hR1.row.alloc _, hR1.le, hR1.few, hR1.short, hR1.apart, hR1.small⟩⟩, HOa.out _⟩
      | false =>
        cases d1 with
        | false => 
            have HOK : Hid (takes ts s p xs (k + 1)) := HS.out (by rw [HK2.out]; simp)
            go_wp2
            exact ⟨⟨k + 1, by omega, by go_num, HOK, ⟨hR1.blk.alloc _, hR1.row.alloc _, hR1.le, hR1.few, hR1.short, hR1.apart, hR1.small⟩, fun h => HSa.out h _, HBa.out _⟩, by simp [intOf]; omega⟩
        | true =>
          cases d3 with
          | false => 
            have HOK : Hid (takes ts s p xs (k + 1)) := HS.out (by rw [HK2.out]; simp)
            go_wp2
            exact ⟨⟨k + 1, by omega, by go_num, HOK, ⟨hR1.blk.alloc _, hR1.row.alloc _, hR1.le, hR1.few, hR1.short, hR1.apart, hR1.small⟩, fun h => HSa.out h _, HBa.out _⟩, by simp [intOf]; omega⟩
          | true => 
            have HNO : Hid (¬ takes ts s p xs n) := HNo.out (by rw [HK2.out]; simp)
            
            go_wp2
            go_ret
            exact ⟨false, rfl, .inr ⟨rfl, HNO.out, ⟨hR1.blk.alloc _, hR1.row.alloc _, hR1.le, hR1.few, hR1.short, hR1.apart, hR1.small⟩⟩, HOa.out _⟩
    · obtain rfl : k = n := by omega
      have hle2 := takes_le htk.out hle
      have q2 : wr.cell? ⟨R, 2, none⟩ = some (.int .i64 p) := hRr.blk.cell 2
      have fR : ∀ j, wr.frozen? ⟨R, j, none⟩ = false := fun j => hRr.blk.frozen j
      have hmv := hRr.move (p + k) hle2
      have hOm : Only [R] w (wr.setCell ⟨R, 2, none⟩ (.int .i64 ((p + k : Nat) : Int))) := (Only.of_below' (by rw [hN]; exact hbl)).set (by simp) 2 _
      have ez : ((p + k : Nat) : Int) = (p : Int) + (k : Int) := by omega
      rw [ez] at hmv hOm
      have HM : Hid _ := hmv
      have HO : Hid _ := hOm
      clear hmv hOm
      go_wp2
      go_ret
      exact ⟨true, rfl, .inl ⟨rfl, htk.out, HM.out⟩, HO.out⟩

set_option maxRecDepth 100000 in
set_option maxHeartbeats 3200000 in
theorem refTake_calls (R base : Nat) (v : Value) (ts : List Tok) (s : ByteArray) (p : Nat) (a : Option Addr) (n cap : Nat) (xs : Nat → ByteArray) (hn : n ≤ 5) (hcap : n ≤ cap) (w : World) (hR : Rd w 55 59 R base v ts s p) (hS : Strs w a n xs) :
    Calls Try.prog 25 #[.pointer (some ⟨R, 0, none⟩), .slice a n cap] w fun e w' => ∃ r, e = .returned (.bool r) ∧ TakeEnds w' 55 59 R base v ts s p xs n r ∧ Only [R] w w' := by
  obtain ⟨N, hN⟩ : ∃ N, w.heap.size = N := ⟨_, rfl⟩
  have hRN : R < N := by rw [← hN]; exact hR.blk.lt
  have hle := hR.le
  have hfew := hR.few
  have cL := fun n w h => refPeek_calls R base v ts s p n w h
  have CL : Hid _ := cL
  clear cL
  go_enter Try.func25, Try.ntmps25
  go_wp2
  go_loopw [5] (fun i wr => ∃ k : Nat, k ≤ n ∧ i = .int .i64 k ∧ Hid (takes ts s p xs k) ∧ Rd wr 55 59 R base v ts s p ∧ Strs wr a n xs ∧ Below N w wr)
    (fun i _ => n - (intOf i).toNat)
  case atStart => exact ⟨0, Nat.zero_le _, rfl, fun j hj => absurd hj (by omega), hR, hS, Below.refl _ _⟩
  case round =>
    clear hR hS
    obtain ⟨k, hk, rfl, htk, hRr, hSr, hbl⟩ := hrel
    by_cases hlt : k < n
    · obtain ⟨A, o, rfl, hA, hc⟩ := hSr (by omega)
      have q := hc k hlt
      have cK := CL.out (k : Int)
      have hstep := fun h => takes_step (ts := ts) (s := s) (p := p) (xs := xs) htk.out h
      have hno : okT (pk ts s p (k : Int)) (xs k) = false → ¬ takes ts s p xs n := fun h h2 => by have := h2 k hlt; rw [h] at this; cases this
      generalize pk ts s p (k : Int) = t at *
      have CK : Hid _ := cK
      have HS : Hid _ := hstep
      have HNo : Hid _ := hno
      clear cK hstep hno
      have y1 : (0 : Int) ≤ (k : Int) := by omega
      have y2 : (k : Int) < (n : Int) := by omega
      go_wp2_with fail
      refine (CK.out _ hRr).mono ?_
      rintro e w1 ⟨rfl, hb1⟩
      have hR1 := hRr.below hb1
      have hS1 := hSr.below hb1
      have hb2 : Below N w w1 := hbl.trans (hb1.mono (by have := hbl.size; omega))
      have hA1 : A < w1.heap.size := Nat.lt_of_lt_of_le hA hb1.size
      have q1 := (hb1.cell (p := ⟨A, o + k, none⟩) hA).trans q
      have qa : ∀ ob, (w1.alloc ob).cell? ⟨A, o + k, none⟩ = some (.string (xs k)) := fun ob => (World.cell?_of_block (w := w1) (Below.heap_alloc w1 ob A hA1)).trans q1
      have hSa : ∀ (h : 0 < n) (ob : Obj), ∃ A' o', some (⟨A, o, none⟩ : Addr) = some ⟨A', o', none⟩ ∧ A' < (w1.alloc ob).heap.size ∧ ∀ j, j < n → (w1.alloc ob).cell? ⟨A', o' + j, none⟩ = some (.string (xs j)) := fun h ob => hS1.below ((Below.refl _ _).alloc (Nat.le_refl _) ob) h
      have hNw : N ≤ w1.heap.size := by have := hb2.size; omega
      have hBa : ∀ ob, Below N w (w1.alloc ob) := fun ob => hb2.alloc hNw ob
      obtain ⟨M, hM⟩ : ∃ M, w1.heap.size = M := ⟨_, rfl⟩
      have hOa : ∀ ob, Only [R] w (w1.alloc ob) := fun ob => (Only.of_below' (by rw [hN]; exact hb2)).alloc ob
      have HBa : Hid _ := hBa
      have HOa : Hid _ := hOa
      have HSa : Hid _ := hSa
      clear hb1 q1 hc q hSr hRr hbl hb2 hBa hOa hSa hS1
      unfold agg
      obtain ⟨d1, hd1⟩ : ∃ d, ((t.kind : Int) != 1) = d := ⟨_, rfl⟩
      obtain ⟨d3, hd3⟩ : ∃ d, ((t.kind : Int) != 3) = d := ⟨_, rfl⟩
      obtain ⟨dx, hdx⟩ : ∃ d, (t.text.toList != (xs k).toList) = d := ⟨_, rfl⟩
      have hok : okT t (xs k) = ((!d1 || !d3) && !dx) := okT_parts t (xs k) d1 d3 dx hd1 hd3 hdx
      have hdy : (t.text.toList == (xs k).toList) = !dx := by rw [← hdx]; simp [bne]
      generalize xs k = x at *
      have HK2 : Hid _ := hok
      clear hok
      cases dx with
      | true =>
        have HNO : Hid (¬ takes ts s p xs n) := HNo.out (by rw [HK2.out]; simp)
        cases d1 with
        | false => 
            go_wp2_with fail
            go_quiet (fail)
            go_wp2
            go_ret
            exact ⟨false, rfl, .inr ⟨rfl, HNO.out, ⟨hR1.blk.alloc _, hR1.row.alloc _, hR1.le, hR1.few, hR1.short, hR1.apart, hR1.small⟩⟩, (HOa.out _).drewN _⟩
        | true =>
          cases d3 with
          | false => 
            go_wp2_with fail
            go_quiet (fail)
            go_wp2
            go_ret
            exact ⟨false, rfl, .inr ⟨rfl, HNO.out, ⟨hR1.blk.alloc _, hR1.row.alloc _, hR1.le, hR1.few, hR1.short, hR1.apart, hR1.small⟩⟩, (HOa.out _).drewN _⟩
          | true => 
            go_wp2_with fail
            go_quiet (fail)
            go_wp2
            go_ret
            exact ⟨false, rfl, .inr ⟨rfl, HNO.out, ⟨hR1.blk.alloc _, hR1.row.alloc _, hR1.le, hR1.few, hR1.short, hR1.apart, hR1.small⟩⟩, (HOa.out _).drewN _⟩
      | false =>
        cases d1 with
        | false => 
            have HOK : Hid (takes ts s p xs (k + 1)) := HS.out (by rw [HK2.out]; simp)
            go_wp2_with fail
            go_quiet (fail)
            go_wp2
            exact ⟨⟨k + 1, by omega, by go_num, HOK, ⟨hR1.blk.alloc _, hR1.row.alloc _, hR1.le, hR1.few, hR1.short, hR1.apart, hR1.small⟩, fun h => HSa.out h _, below_drewN (HBa.out _) _⟩, by simp [intOf]; omega⟩
        | true =>
          cases d3 with
          | false => 
            have HOK : Hid (takes ts s p xs (k + 1)) := HS.out (by rw [HK2.out]; simp)
            go_wp2_with fail
            go_quiet (fail)
            go_wp2
            exact ⟨⟨k + 1, by omega, by go_num, HOK, ⟨hR1.blk.alloc _, hR1.row.alloc _, hR1.le, hR1.few, hR1.short, hR1.apart, hR1.small⟩, fun h => HSa.out h _, below_drewN (HBa.out _) _⟩, by simp [intOf]; omega⟩
          | true => 
            have HNO : Hid (¬ takes ts s p xs n) := HNo.out (by rw [HK2.out]; simp)
            
            go_wp2_with fail
            go_quiet (fail)
            go_wp2
            go_ret
            exact ⟨false, rfl, .inr ⟨rfl, HNO.out, ⟨hR1.blk.alloc _, hR1.row.alloc _, hR1.le, hR1.few, hR1.short, hR1.apart, hR1.small⟩⟩, (HOa.out _).drewN _⟩
    · obtain rfl : k = n := by omega
      have hle2 := takes_le htk.out hle
      have q2 : wr.cell? ⟨R, 2, none⟩ = some (.int .i64 p) := hRr.blk.cell 2
      have fR : ∀ j, wr.frozen? ⟨R, j, none⟩ = false := fun j => hRr.blk.frozen j
      have hmv := hRr.move (p + k) hle2
      have hOm : Only [R] w (wr.setCell ⟨R, 2, none⟩ (.int .i64 ((p + k : Nat) : Int))) := (Only.of_below' (by rw [hN]; exact hbl)).set (by simp) 2 _
      have ez : ((p + k : Nat) : Int) = (p : Int) + (k : Int) := by omega
      rw [ez] at hmv hOm
      have HM : Hid _ := hmv
      have HO : Hid _ := hOm
      clear hmv hOm
      go_wp2
      go_ret
      exact ⟨true, rfl, .inl ⟨rfl, htk.out, HM.out⟩, HO.out⟩

set_option maxRecDepth 100000 in
set_option maxHeartbeats 800000 in
theorem Take_nil (a : Option Addr) (n cap : Nat) (xs : Nat → ByteArray) (hn : n ≤ 5) (hcap : n ≤ cap) (w : World) (hS : Strs w a n xs) :
    Calls Try.prog 24 #[.pointer none, .slice a n cap] w fun e w' => e = .returned (.bool (decide (n = 0))) ∧ Below w.heap.size w w' := by
  rcases Nat.eq_zero_or_pos n with rfl | hpos
  · go_enter Try.func24, Try.ntmps24
    go_wp2
    refine wp_loop_rounds 1 ?_; rw [rounds_succ]
    go_wp2
    go_ret
    exact ⟨rfl, Below.refl _ _⟩
  · obtain ⟨A, o, rfl, hA, hc⟩ := hS hpos
    have q := hc 0 hpos
    rw [Nat.add_zero] at q
    have HV : Hid (decide (n = 0) = false) := by show _ = _; simp; omega
    have y2 : (0 : Int) < (n : Int) := by omega
    clear hS hc
    go_enter Try.func24, Try.ntmps24
    go_wp2
    refine wp_loop_rounds 1 ?_; rw [rounds_succ]
    go_wp2_with fail
    refine (look_nil 0 _).mono ?_
    rintro e w1 ⟨rfl, hb1⟩
    obtain ⟨M, hM⟩ : ∃ M, w1.heap.size = M := ⟨_, rfl⟩
    go_wp2
    go_ret
    exact ⟨by rw [HV.out]; rfl, hb1.alloc hb1.size _⟩

end Go.Proofs.Ytainjagbcbjnbaa
