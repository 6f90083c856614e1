/-
  Tabs: several texts in one file.
-/
import Derived.Test.YtdihplmlbfggjaaGreatDoorTyWork
import Derived.Test.YtdihplmlbfggjaaGreatDoorTyWalk
import Derived.Test.YtdihplmlbfggjaaGreatDoorLxWords
import Derived.Maps.OwnSet
/-
  Names and constants in memory: what a slice of strings, or of constants, holds.
-/
namespace Go.Proofs.YtdihplmlbfggjaaGreatDoor
open Go Go.RowKit

/-- THE SLICE v HOLDS JUST THESE STRINGS, in blocks that ok lets by. -/
def HoldsS (w : World) (ok : Nat → Prop) (ss : List ByteArray) (v : Value) : Prop :=
  ∃ a cap, v = .slice a ss.length cap ∧ ss.length ≤ cap ∧ (a = none → cap = 0) ∧ ∀ i s, ss[i]? = some s → ∃ g o, a = some ⟨g, o, none⟩ ∧ ok g ∧ w.cell? ⟨g, o + i, none⟩ = some (.string s)
theorem HoldsS.keep {w w' : World} {ok ok' : Nat → Prop} {ss : List ByteArray} {v : Value} (h : HoldsS w ok ss v) (hb : ∀ b, b < w.heap.size → ok b → w'.heap[b]? = w.heap[b]? ∧ ok' b) : HoldsS w' ok' ss v := by
  obtain ⟨a, cap, h1, h2, h3, h4⟩ := h
  refine ⟨a, cap, h1, h2, h3, fun i s hs => ?_⟩
  obtain ⟨g, o, e1, e2, e3⟩ := h4 i s hs
  have hk := hb g (lt_of_cell e3) e2
  exact ⟨g, o, e1, hk.2, (World.cell?_of_block (w := w) (a := ⟨g, o + i, none⟩) hk.1).trans e3⟩
theorem HoldsS.mono {w : World} {ok ok' : Nat → Prop} {ss : List ByteArray} {v : Value} (h : HoldsS w ok ss v) (hb : ∀ b, b < w.heap.size → ok b → ok' b) : HoldsS w ok' ss v := h.keep fun b hl ho => ⟨rfl, hb b hl ho⟩
theorem HoldsS.bel {w w' : World} {ok : Nat → Prop} {ss : List ByteArray} {v : Value} (h : HoldsS w ok ss v) (hb : Below w.heap.size w w') : HoldsS w' ok ss v := h.keep fun b hl ho => ⟨hb.block b hl, ho⟩
theorem HoldsS.alloc {w : World} {ok : Nat → Prop} {ss : List ByteArray} {v : Value} (h : HoldsS w ok ss v) (o : Obj) : HoldsS (w.alloc o) ok ss v := h.bel ((Below.refl _ _).alloc (Nat.le_refl _) o)
theorem HoldsS.nil (w : World) (ok : Nat → Prop) : HoldsS w ok [] (.slice none 0 0) := ⟨none, 0, rfl, Nat.zero_le _, fun _ => rfl, fun i s h => by simp at h⟩

/-- A constant. -/
structure Cn where
  name : ByteArray
  ty : Ty
/-- THE SLICE v HOLDS JUST THESE CONSTANTS: a constant has three cells: its name, its type's arguments' slice and its base. -/
def HoldsC (w : World) (ok : Nat → Prop) (cs : List Cn) (v : Value) : Prop :=
  ∃ a cap, v = .slice a cs.length cap ∧ cs.length ≤ cap ∧ (a = none → cap = 0) ∧ ∀ i c, cs[i]? = some c → ∃ g o s, a = some ⟨g, o, none⟩ ∧ ok g ∧ w.cell? ⟨g, o + i * 3, none⟩ = some (.string c.name) ∧ w.cell? ⟨g, o + i * 3 + 1, none⟩ = some s ∧ w.cell? ⟨g, o + i * 3 + 2, none⟩ = some (.int .i64 c.ty.base) ∧ Holds w ok c.ty.args s
theorem HoldsC.keep {w w' : World} {ok ok' : Nat → Prop} {cs : List Cn} {v : Value} (h : HoldsC w ok cs v) (hb : ∀ b, b < w.heap.size → ok b → w'.heap[b]? = w.heap[b]? ∧ ok' b) : HoldsC w' ok' cs v := by
  obtain ⟨a, cap, h1, h2, h3, h4⟩ := h
  refine ⟨a, cap, h1, h2, h3, fun i c hc => ?_⟩
  obtain ⟨g, o, s, e1, e2, e3, e4, e5, e6⟩ := h4 i c hc
  have hk := hb g (lt_of_cell e3) e2
  exact ⟨g, o, s, e1, hk.2, (World.cell?_of_block (w := w) (a := ⟨g, o + i * 3, none⟩) hk.1).trans e3, (World.cell?_of_block (w := w) (a := ⟨g, o + i * 3 + 1, none⟩) hk.1).trans e4, (World.cell?_of_block (w := w) (a := ⟨g, o + i * 3 + 2, none⟩) hk.1).trans e5, e6.keep hb⟩
theorem HoldsC.mono {w : World} {ok ok' : Nat → Prop} {cs : List Cn} {v : Value} (h : HoldsC w ok cs v) (hb : ∀ b, b < w.heap.size → ok b → ok' b) : HoldsC w ok' cs v := h.keep fun b hl ho => ⟨rfl, hb b hl ho⟩
theorem HoldsC.bel {w w' : World} {ok : Nat → Prop} {cs : List Cn} {v : Value} (h : HoldsC w ok cs v) (hb : Below w.heap.size w w') : HoldsC w' ok cs v := h.keep fun b hl ho => ⟨hb.block b hl, ho⟩
theorem HoldsC.alloc {w : World} {ok : Nat → Prop} {cs : List Cn} {v : Value} (h : HoldsC w ok cs v) (o : Obj) : HoldsC (w.alloc o) ok cs v := h.bel ((Below.refl _ _).alloc (Nat.le_refl _) o)
theorem HoldsC.nil (w : World) (ok : Nat → Prop) : HoldsC w ok [] (.slice none 0 0) := ⟨none, 0, rfl, Nat.zero_le _, fun _ => rfl, fun i s h => by simp at h⟩
/-- Across a step that turns some blocks alone, none of which ok lets by. -/
theorem HoldsS.only {S : List Nat} {w w' : World} {ok : Nat → Prop} {ss : List ByteArray} {v : Value} (h : HoldsS w ok ss v) (hk : Only S w w') (hs : ∀ b, ok b → b ∉ S) : HoldsS w' ok ss v := h.keep fun b hl ho => ⟨hk.block b hl (hs b ho), ho⟩
theorem HoldsC.only {S : List Nat} {w w' : World} {ok : Nat → Prop} {cs : List Cn} {v : Value} (h : HoldsC w ok cs v) (hk : Only S w w') (hs : ∀ b, ok b → b ∉ S) : HoldsC w' ok cs v := h.keep fun b hl ho => ⟨hk.block b hl (hs b ho), ho⟩
theorem Holds.only {S : List Nat} {w w' : World} {ok : Nat → Prop} {ts : List Ty} {v : Value} (h : Holds w ok ts v) (hk : Only S w w') (hs : ∀ b, ok b → b ∉ S) : Holds w' ok ts v := h.keep fun b hl ho => ⟨hk.block b hl (hs b ho), ho⟩

/-- A table, as a value. -/
abbrev tab (a b : Value) : Value := .agg #[a, b]

end Go.Proofs.YtdihplmlbfggjaaGreatDoor

/-
  The contract of vocab.meet: a name is met, or told what is wrong with it behind those that were met.
-/
namespace Go.Proofs.YtdihplmlbfggjaaGreatDoor
open Go Go.RowKit Go.Maps

theorem law9 : Keyed Tryz.prog 9 := string_keyed Tryz.underlying9
theorem zero3 (w : World) : (zeroValue 3).run Tryz.prog w = .ok (.int .i64 0) w := by kernel_rfl
/-- A name as a key. -/
abbrev kOf (s : ByteArray) : Lit := .string s.data.toList
theorem keyLit (s : ByteArray) : WideAt.IsKeyLit (kOf s) := trivial
theorem kOf_inj {a b : ByteArray} (h : kOf a = kOf b) : a = b := by
  have : a.data.toList = b.data.toList := by simpa [kOf] using h
  exact ByteArray.ext (Array.toList_inj.1 this)
/-- Is this text a word? -/
abbrev wordB (s : ByteArray) : Bool := Lx.justB s 1

/-- Is this name among these? -/
def inB (s : ByteArray) (ms : List ByteArray) : Bool := ms.any fun t => t.data.toList == s.data.toList
theorem inB_iff (s : ByteArray) (ms : List ByteArray) : inB s ms = true ↔ s ∈ ms := by
  unfold inB
  rw [List.any_eq_true]
  constructor
  · rintro ⟨t, ht, he⟩
    have : t = s := ByteArray.ext (Array.toList_inj.1 (by simpa using he))
    rw [← this]
    exact ht
  · intro h
    exact ⟨s, h, by simp⟩
theorem inB_snoc (s x : ByteArray) (ms : List ByteArray) : inB s (ms ++ [x]) = (inB s ms || x.data.toList == s.data.toList) := by simp [inB, List.any_append]

/-- THE MAP IN BLOCK b HAS JUST THESE NAMES. -/
def Met (w : World) (b : Nat) (ms : List ByteArray) : Prop :=
  ∃ D : DataW Unit, w.ownsMap Tryz.prog 9 (plainElem Tryz.prog 3) b ms.length D ∧ Tidy D ∧ Maps.size D = ms.length ∧ ∀ s : ByteArray, Maps.has D (kOf s) = inB s ms
theorem Met.keep {w w' : World} {b : Nat} {ms : List ByteArray} (h : Met w b ms) (hb : w'.heap[b]? = w.heap[b]?) : Met w' b ms := by
  obtain ⟨D, ⟨es, clock, h1, h2⟩, h3⟩ := h
  exact ⟨D, ⟨es, clock, hb.trans h1, h2⟩, h3⟩
theorem Met.lt {w : World} {b : Nat} {ms : List ByteArray} (h : Met w b ms) : b < w.heap.size := by
  obtain ⟨D, h1, _⟩ := h
  exact h1.lt
theorem Met.new (w : World) : Met (w.alloc (.map #[] 0)) w.heap.size [] := ⟨.map [], World.ownsMap_made w _ _ _, tidy_empty, rfl, fun _ => rfl⟩

/-- What is wrong with a name. -/
def metE (ms : List ByteArray) (s : ByteArray) : Nat := if wordB s = false then 3 else if inB s ms = true then 4 else 0

set_option maxRecDepth 100000 in
set_option maxHeartbeats 1600000 in
theorem meet_calls (ms : List ByteArray) (s : ByteArray) (hs : s.size ≤ 281474976710656) (b : Nat) (w : World) (hm : Met w b ms) (hl : ms.length ≤ 1000) :
    Calls Tryz.prog 33 #[.map (some b), .string s] w fun e w' => e = .returned (.int .i64 (metE ms s : Int)) ∧ (metE ms s = 0 → Met w' b (ms ++ [s])) ∧ Only [b] w w' := by
  obtain ⟨D, hown, htd, hsz, hhas⟩ := hm
  have hkey : keyOf Tryz.prog 9 (.string s) = some (kOf s) := WideMaps.keyOf_string_mk Tryz.underlying9 (by unfold maxLen; omega)
  have hW := Lx.IsWord_calls s (by omega)
  obtain ⟨r, hr⟩ : ∃ r, wordB s = r := ⟨_, rfl⟩
  rw [show Lx.justB s 1 = r from hr] at hW
  have hh := hhas s
  obtain ⟨c, hc⟩ : ∃ c, inB s ms = c := ⟨_, rfl⟩
  have hE : Hid (metE ms s = if r = false then 3 else if c = true then 4 else 0) := by
    show _ = _
    unfold metE
    rw [hr, hc]
  rw [hc] at hh
  generalize metE ms s = me at *
  have HC : Hid (inB s ms = c) := hc
  clear hc hr
  cases r
  · go_enter Tryz.func33, Tryz.ntmps33
    go_wp2_with (go_at_call 36; refine (hW _).mono ?_; rintro e w' ⟨rfl, rfl⟩)
    go_ret
    exact ⟨by rw [hE.out]; rfl, (fun h => by rw [hE.out] at h; cases h), Only.refl _ _⟩
  · have hwf : (Lit.int .i64 (Maps.size D : Int)).wf = true := WalkArith.wf_i64 (by rw [hsz]; omega)
    go_enter Tryz.func33, Tryz.ntmps33
    cases c
    · go_wp2_with (first
        | (go_at_call 36; refine (hW _).mono ?_; rintro e w' ⟨rfl, rfl⟩)
        | (at_lookup; refine wpList_lookup_own_ok_int _ rfl _ _ 75 rfl 9 3 .i64 law9 Tryz.underlying75 Tryz.underlying3 (zero3 _) b ms.length D rfl hown _ _ rfl hkey ?_; intro c hat hwc; rw [hh])
        | (at_len; refine wpList_len_own _ rfl _ 75 rfl 9 3 Tryz.underlying75 _ b ms.length D rfl hown ?_)
        | (at_mapUpdate; refine wpList_mapUpdate_own _ rfl _ _ _ 75 rfl 9 3 law9 Tryz.underlying75 _ b ms.length D rfl hown (by unfold maxLen; omega) _ _ _ rfl rfl hkey _ [] (plainElem_int Tryz.underlying3 hwf) ?_; intro w1 hown1 hgrow1))
      go_ret
      refine ⟨by rw [hE.out]; rfl, fun _ => ⟨_, by rw [List.length_append]; exact hown1, htd.put (keyLit s) _, ?_, fun x => ?_⟩, ⟨hgrow1.os, hgrow1.tape, hgrow1.output, hgrow1.size, fun k hk hn => hgrow1.block k hk (fun e => hn (by cases e; simp))⟩⟩
      · rw [size_put htd, hh, hsz, List.length_append]
        rfl
      · rw [inB_snoc]
        by_cases hx : s = x
        · subst hx
          rw [has_put_same htd.isMap (keyLit s)]
          simp
        · rw [has_put_other (fun e => hx (kOf_inj e).symm), hhas x]
          have : (s.data.toList == x.data.toList) = false := by
            rw [beq_eq_false_iff_ne]
            exact fun e => hx (ByteArray.ext (Array.toList_inj.1 e))
          rw [this, Bool.or_false]
    · go_wp2_with (first
        | (go_at_call 36; refine (hW _).mono ?_; rintro e w' ⟨rfl, rfl⟩)
        | (at_lookup; refine wpList_lookup_own_ok_int _ rfl _ _ 75 rfl 9 3 .i64 law9 Tryz.underlying75 Tryz.underlying3 (zero3 _) b ms.length D rfl hown _ _ rfl hkey ?_; intro c hat hwc; rw [hh]))
      go_ret
      exact ⟨by rw [hE.out]; rfl, (fun h => by rw [hE.out] at h; cases h), Only.refl _ _⟩

end Go.Proofs.YtdihplmlbfggjaaGreatDoor

/-
  The contract of vocab.Check.
-/
namespace Go.Proofs.YtdihplmlbfggjaaGreatDoor
open Go Go.RowKit Go.Maps

/-- What is wrong with names, behind those that were met. -/
def chkB (ms : List ByteArray) : List ByteArray → Nat
  | [] => 0
  | s :: r => if metE ms s = 0 then chkB (ms ++ [s]) r else metE ms s
/-- What is wrong with constants. -/
def chkC (nb : Int) (ms : List ByteArray) : List Cn → Nat
  | [] => 0
  | c :: r => if metE ms c.name = 0 then (if rightB nb c.ty = true then chkC nb (ms ++ [c.name]) r else 5) else metE ms c.name
/-- What is wrong with a table. -/
def chk (bs : List ByteArray) (cs : List Cn) : Nat := if 1000 < bs.length + cs.length then 2 else if chkB [] bs = 0 then chkC bs.length bs cs else chkB [] bs

theorem chkB_step {ms : List ByteArray} {l : List ByteArray} {k : Nat} {s : ByteArray} (h : l[k]? = some s) : chkB ms (l.drop k) = if metE ms s = 0 then chkB (ms ++ [s]) (l.drop (k + 1)) else metE ms s := by
  obtain ⟨hl, he⟩ := List.getElem?_eq_some_iff.1 h
  rw [List.drop_eq_getElem_cons hl, he, chkB]
theorem chkC_step {nb : Int} {ms : List ByteArray} {l : List Cn} {k : Nat} {c : Cn} (h : l[k]? = some c) : chkC nb ms (l.drop k) = if metE ms c.name = 0 then (if rightB nb c.ty = true then chkC nb (ms ++ [c.name]) (l.drop (k + 1)) else 5) else metE ms c.name := by
  obtain ⟨hl, he⟩ := List.getElem?_eq_some_iff.1 h
  rw [List.drop_eq_getElem_cons hl, he, chkC]
theorem metE_small (ms : List ByteArray) (s : ByteArray) : metE ms s = 0 ∨ metE ms s = 3 ∨ metE ms s = 4 := by
  unfold metE
  split
  · simp
  · split <;> simp

/-- Names, and constants, that a machine may hold. -/
def FitS (bs : List ByteArray) : Prop := ∀ s ∈ bs, s.size ≤ 281474976710656
def FitC (cs : List Cn) : Prop := ∀ c ∈ cs, c.name.size ≤ 281474976710656 ∧ c.ty.size ≤ 900000

set_option maxRecDepth 100000 in
set_option maxHeartbeats 3200000 in
theorem Check_calls (bs : List ByteArray) (cs : List Cn) (ok : Nat → Prop) (va vb : Value) (w : World) (hS : HoldsS w ok bs va) (hC : HoldsC w ok cs vb) (fs : FitS bs) (fc : FitC cs) (hlen : bs.length + cs.length ≤ 1000000) :
    Calls Tryz.prog 21 #[tab va vb] w fun e w' => e = .returned (.int .i64 (chk bs cs : Int)) ∧ Below w.heap.size w w' := by
  obtain ⟨N, hN⟩ : ∃ N, w.heap.size = N := ⟨_, rfl⟩
  have hS' : HoldsS w (fun b => b < N) bs va := hS.mono fun b hb _ => by omega
  have hC' : HoldsC w (fun b => b < N) cs vb := hC.mono fun b hb _ => by omega
  obtain ⟨a, cap, rfl, hcap, hnil, hat⟩ := hS'
  obtain ⟨c, cap', rfl, hcap', hnil', hct⟩ := hC'
  rw [hN]
  have hmm := @run_makeMap Tryz.prog
  have HA : Hid _ := hat
  have HC : Hid _ := hct
  obtain ⟨nb, hnb⟩ : ∃ nb, bs.length = nb := ⟨_, rfl⟩
  obtain ⟨nc, hnc⟩ : ∃ nc, cs.length = nc := ⟨_, rfl⟩
  have HNB : Hid (bs.length = nb) := hnb
  have HNC : Hid (cs.length = nc) := hnc
  have HE : Hid (chk bs cs = if 1000 < nb + nc then 2 else if chkB [] bs = 0 then chkC nb bs cs else chkB [] bs) := by show _ = _; rw [chk, hnb, hnc]
  generalize chk bs cs = code at *
  rw [hnb] at hcap ⊢
  rw [hnc] at hcap' ⊢
  rw [hnb, hnc] at hlen
  clear hat hct hS hC hnb hnc hnil hnil'
  by_cases hbig : 1000 < nb + nc
  · have z0 : decide ((1000 : Int) < (nb : Int) + (nc : Int)) = true := by simp; omega
    go_enter Tryz.func21, Tryz.ntmps21
    go_wp2
    go_ret
    exact ⟨by rw [HE.out, if_pos hbig]; rfl, (Below.refl N w).alloc (by omega) _⟩
  · have z0 : decide ((1000 : Int) < (nb : Int) + (nc : Int)) = false := by simp; omega
    have HE2 : Hid (code = if chkB [] bs = 0 then chkC nb bs cs else chkB [] bs) := by show _ = _; rw [HE.out, if_neg hbig]
    clear HE
    go_enter Tryz.func21, Tryz.ntmps21
    go_wp2
    generalize hw1 : (w.alloc (.cells #[.slice a nb cap, .slice c nc cap'] 28)).alloc (.map #[] 0) = w1
    have b1 : Blk w1 N 28 #[.slice a nb cap, .slice c nc cap'] := by rw [← hw1]; exact (Blk.new' w N 28 _ hN).alloc _
    have m1 : Met w1 (N + 1) [] := by
      rw [← hw1]
      have := Met.new (w.alloc (.cells #[.slice a nb cap, .slice c nc cap'] 28))
      rwa [World.size_alloc, hN] at this
    have bl1 : Below N w w1 := by rw [← hw1]; exact ((Below.refl N w).alloc (by omega) _).alloc (by simp; omega) _
    clear hw1
    go_loopw [22] (fun i wr => ∃ k : Nat, k ≤ nb ∧ i = .int .i64 k ∧ Met wr (N + 1) (bs.take k) ∧ Blk wr N 28 #[.slice a nb cap, .slice c nc cap'] ∧ Below N w wr ∧ Hid (chkB [] bs = chkB (bs.take k) (bs.drop k))) (fun i _ => nb - (intOf i).toNat)
    case atStart => exact ⟨0, Nat.zero_le _, rfl, m1, b1, bl1, rfl⟩
    case round =>
      clear b1 m1 bl1
      obtain ⟨k, hk, rfl, hm, hb, hbl, HK⟩ := hrel
      by_cases hlt : k < nb
      · obtain ⟨s, hs⟩ : ∃ s, bs[k]? = some s := ⟨_, List.getElem?_eq_getElem (by rw [HNB.out]; exact hlt)⟩
        obtain ⟨g, o, rfl, hg, q0⟩ := HA.out k s hs
        have q1 := (cat hbl hg).trans q0
        have y1 : (0 : Int) ≤ (k : Int) := by omega
        have y2 : (k : Int) < (nb : Int) := by omega
        have z1 : decide ((k : Int) < (nb : Int)) = true := by simp; omega
        have hlk : (bs.take k).length ≤ 1000 := by rw [List.length_take]; omega
        have hcall := meet_calls (bs.take k) s (fs s (List.mem_of_getElem? hs)) (N + 1) wr hm hlk
        have HS2 := chkB_step (ms := bs.take k) hs
        have HT : Hid (bs.take (k + 1) = bs.take k ++ [s]) := by show _ = _; rw [List.take_add_one, hs]; rfl
        have hsm := metE_small (bs.take k) s
        obtain ⟨me, hme⟩ : ∃ me, metE (bs.take k) s = me := ⟨_, rfl⟩
        rw [hme] at hcall HS2 hsm
        have HS3 : Hid _ := HS2
        clear HS2 hme q0 hs
        by_cases hz : me = 0
        · subst hz
          go_wp2_with (go_at_call 33; refine hcall.mono ?_; clear hcall; rintro e w2 ⟨rfl, hm2, hO2⟩)
          have hm3 := hm2 trivial
          rw [← HT.out] at hm3
          go_roundw
          case rel => exact ⟨k + 1, by omega, by go_num, hm3, hb.only hO2 (by simp), hbl.trans (hO2.below (by have := hb.lt; omega) (fun x hx => by simp at hx; omega)), by show _ = _; rw [HK.out, HS3.out, HT.out]; rfl⟩
          case measure => simp [intOf]; omega
        · have z3 : ((me : Int) != 0) = true := by simp; omega
          have z4 : decide ((me : Int) = 0) = false := by simp; omega
          have HR : Hid (code = me) := by show _ = _; rw [HE2.out, HK.out, HS3.out, if_neg hz, if_neg hz]
          go_wp2_with (go_at_call 33; refine hcall.mono ?_; clear hcall; rintro e w2 ⟨rfl, _, hO2⟩)
          go_ret
          exact ⟨by rw [HR.out]; rfl, hbl.trans (hO2.below (by have := hb.lt; omega) (fun x hx => by simp at hx; omega))⟩
      · obtain rfl : k = nb := by omega
        rw [List.take_of_length_le (by rw [HNB.out]; exact Nat.le_refl _)] at hm HK
        rw [List.drop_of_length_le (by rw [HNB.out]; exact Nat.le_refl _)] at HK
        have HE3 : Hid (code = chkC k bs cs) := by show _ = _; rw [HE2.out, HK.out, chkB, if_pos rfl]
        have q1 := hb.cell 1
        have z1 : decide ((k : Int) < (k : Int)) = false := by simp
        clear HK HE2
        go_wp2
        go_loopw [36] (fun i wr2 => ∃ j : Nat, j ≤ nc ∧ i = .int .i64 j ∧ Met wr2 (N + 1) (bs ++ (cs.take j).map Cn.name) ∧ Blk wr2 N 28 #[.slice a k cap, .slice c nc cap'] ∧ Below N w wr2 ∧ Hid (chkC k bs cs = chkC k (bs ++ (cs.take j).map Cn.name) (cs.drop j))) (fun i _ => nc - (intOf i).toNat)
        case atStart => exact ⟨0, Nat.zero_le _, rfl, by simpa using hm, hb, hbl, by show _ = _; simp⟩
        case round =>
          clear hm hb hbl q1
          obtain ⟨j, hj, rfl, hm, hb, hbl, HK⟩ := hrel
          by_cases hlt : j < nc
          · obtain ⟨x, hx⟩ : ∃ x, cs[j]? = some x := ⟨_, List.getElem?_eq_getElem (by rw [HNC.out]; exact hlt)⟩
            obtain ⟨g, o, s, rfl, hg, q0, q1, q2, hs⟩ := HC.out j x hx
            have p0 := (cat hbl hg).trans q0
            have p1 := (cat hbl hg).trans q1
            have p2 := (cat hbl hg).trans q2
            obtain ⟨sa, sc, hsl, _⟩ := hs.shape
            generalize x.ty.args.length = sn at hsl
            subst hsl
            have y1 : (0 : Int) ≤ (j : Int) := by omega
            have y2 : (j : Int) < (nc : Int) := by omega
            have z2 : decide ((j : Int) < (nc : Int)) = true := by simp; omega
            have hfx := fc x (List.mem_of_getElem? hx)
            have hlj : (bs ++ (cs.take j).map Cn.name).length ≤ 1000 := by rw [List.length_append, List.length_map, List.length_take, HNB.out]; omega
            obtain ⟨M, hM⟩ : ∃ M, wr.heap.size = M := ⟨_, rfl⟩
            have hNM : N + 1 < M := by rw [← hM]; exact hm.lt
            obtain ⟨w3, hw3⟩ : ∃ w3, wr.alloc (.cells #[.string x.name, .slice sa sn sc, .int .i64 x.ty.base] 60) = w3 := ⟨_, rfl⟩
            have hm3 : Met w3 (N + 1) (bs ++ (cs.take j).map Cn.name) := hm.keep (by rw [← hw3]; exact Below.heap_alloc _ _ _ hm.lt)
            have b3 := hb.alloc (.cells #[.string x.name, .slice sa sn sc, .int .i64 x.ty.base] 60)
            rw [hw3] at b3
            have x3 : Blk w3 M 60 #[.string x.name, .slice sa sn sc, .int .i64 x.ty.base] := by rw [← hw3]; exact Blk.new' _ M 60 _ hM
            have bl3 : Below N w w3 := by rw [← hw3]; exact hbl.alloc (by omega) _
            have u0 := x3.cell 0
            have hcall := meet_calls (bs ++ (cs.take j).map Cn.name) x.name hfx.1 (N + 1) w3 hm3 hlj
            have HS2 := chkC_step (nb := (k : Int)) (ms := bs ++ (cs.take j).map Cn.name) hx
            have HT : Hid (bs ++ (cs.take (j + 1)).map Cn.name = (bs ++ (cs.take j).map Cn.name) ++ [x.name]) := by show _ = _; rw [List.take_add_one, hx]; simp
            have hsm := metE_small (bs ++ (cs.take j).map Cn.name) x.name
            obtain ⟨me, hme⟩ : ∃ me, metE (bs ++ (cs.take j).map Cn.name) x.name = me := ⟨_, rfl⟩
            rw [hme] at hcall HS2 hsm
            have HS3 : Hid _ := HS2
            clear HS2 hme q0 q1 q2 hx hm hb
            by_cases hz : me = 0
            · subst hz
              go_wp2_with (go_at_call 33; refine hcall.mono ?_; clear hcall; rintro e w4 ⟨rfl, hm4, hO4⟩; have x4 := x3.only hO4 (show M ∉ [N + 1] by simp; omega); have b4 := b3.only hO4 (show N ∉ [N + 1] by simp); have v1 := x4.cell 1; have v2 := x4.cell 2; have t0 := b4.cell 0)
              have bl4 : Below N w w4 := bl3.trans (hO4.below (by have := b3.lt; omega) (fun y hy => by simp at hy; omega))
              have hm5 := hm4 trivial
              rw [← HT.out] at hm5
              have hN4 : N ≤ w4.heap.size := by have := bl4.size; omega
              have hright := kRight_calls (k : Int) x.ty (fun b => b < N) (.slice sa sn sc) w4 (hs.belN (fun b hb => hb) bl4) hfx.2
              obtain ⟨rb, hrb⟩ : ∃ rb, rightB (k : Int) x.ty = rb := ⟨_, rfl⟩
              rw [hrb] at hright
              have HS4 : Hid (chkC k (bs ++ (cs.take j).map Cn.name) (cs.drop j) = if rb = true then chkC k ((bs ++ (cs.take j).map Cn.name) ++ [x.name]) (cs.drop (j + 1)) else 5) := by show _ = _; rw [HS3.out, hrb]; rfl
              refine hright.mono ?_
              clear hright hrb HS3 hm4
              rintro e w5 ⟨rfl, hb5⟩
              have hm6 := hm5.keep (hb5.block _ hm5.lt)
              have b6 := b4.below hb5 b4.lt
              have bl6 : Below N w w5 := bl4.trans (hb5.mono hN4)
              cases rb
              · have HR : Hid (code = 5) := by show _ = _; rw [HE3.out, HK.out, HS4.out]; rfl
                go_wp2
                go_ret
                exact ⟨by rw [HR.out]; rfl, bl6⟩
              · go_wp2
                go_roundw
                case rel => exact ⟨j + 1, by omega, by go_num, hm6, b6, bl6, by show _ = _; rw [HK.out, HS4.out, HT.out]; rfl⟩
                case measure => simp [intOf]; omega
            · have z3 : ((me : Int) != 0) = true := by simp; omega
              have z4 : decide ((me : Int) = 0) = false := by simp; omega
              have HR : Hid (code = me) := by show _ = _; rw [HE3.out, HK.out, HS3.out, if_neg hz]
              go_wp2_with (go_at_call 33; refine hcall.mono ?_; clear hcall; rintro e w4 ⟨rfl, _, hO4⟩)
              go_ret
              exact ⟨by rw [HR.out]; rfl, bl3.trans (hO4.below (by have := b3.lt; omega) (fun y hy => by simp at hy; omega))⟩
          · obtain rfl : j = nc := by omega
            rw [List.drop_of_length_le (by rw [HNC.out]; exact Nat.le_refl _)] at HK
            have z2 : decide ((j : Int) < (j : Int)) = false := by simp
            go_wp2
            go_ret
            exact ⟨by rw [HE3.out, HK.out]; rfl, hbl⟩

end Go.Proofs.YtdihplmlbfggjaaGreatDoor

