/-
  The contract of vocab.meet: a name is met, or told what is wrong with it behind those that were met.
-/
import Derived.Test.YtdihplmlbfggjaaDoorStrs
import Derived.Test.YtdihplmlbfggjaaDoorLxIs
import Derived.Maps.OwnSet
namespace Go.Proofs.YtdihplmlbfggjaaDoor
open Go Go.RowKit Go.Maps

theorem law9 : Keyed Tryd.prog 9 := string_keyed Tryd.underlying9
theorem zero3 (w : World) : (zeroValue 3).run Tryd.prog w = .ok (.int .i64 0) w := by kernel_rfl
/-- A name as a key. -/
abbrev kOf (s : ByteArray) : Lit := .string s.data.toList
theorem keyLit (s : ByteArray) : WideAt.IsKeyLit (kOf s) := trivial
theorem kOf_inj {a b : ByteArray} (h : kOf a = kOf b) : a = b := by
  have : a.data.toList = b.data.toList := by simpa [kOf] using h
  exact ByteArray.ext (Array.toList_inj.1 this)
/-- Is this text a word? -/
abbrev wordB (s : ByteArray) : Bool := Lx.justB s 1

/-- Is this name among these? -/
def inB (s : ByteArray) (ms : List ByteArray) : Bool := ms.any fun t => t.data.toList == s.data.toList
theorem inB_iff (s : ByteArray) (ms : List ByteArray) : inB s ms = true ↔ s ∈ ms := by
  unfold inB
  rw [List.any_eq_true]
  constructor
  · rintro ⟨t, ht, he⟩
    have : t = s := ByteArray.ext (Array.toList_inj.1 (by simpa using he))
    rw [← this]
    exact ht
  · intro h
    exact ⟨s, h, by simp⟩
theorem inB_snoc (s x : ByteArray) (ms : List ByteArray) : inB s (ms ++ [x]) = (inB s ms || x.data.toList == s.data.toList) := by simp [inB, List.any_append]

/-- THE MAP IN BLOCK b HAS JUST THESE NAMES. -/
def Met (w : World) (b : Nat) (ms : List ByteArray) : Prop :=
  ∃ D : DataW Unit, w.ownsMap Tryd.prog 9 (plainElem Tryd.prog 3) b ms.length D ∧ Tidy D ∧ Maps.size D = ms.length ∧ ∀ s : ByteArray, Maps.has D (kOf s) = inB s ms
theorem Met.keep {w w' : World} {b : Nat} {ms : List ByteArray} (h : Met w b ms) (hb : w'.heap[b]? = w.heap[b]?) : Met w' b ms := by
  obtain ⟨D, ⟨es, clock, h1, h2⟩, h3⟩ := h
  exact ⟨D, ⟨es, clock, hb.trans h1, h2⟩, h3⟩
theorem Met.lt {w : World} {b : Nat} {ms : List ByteArray} (h : Met w b ms) : b < w.heap.size := by
  obtain ⟨D, h1, _⟩ := h
  exact h1.lt
theorem Met.new (w : World) : Met (w.alloc (.map #[] 0)) w.heap.size [] := ⟨.map [], World.ownsMap_made w _ _ _, tidy_empty, rfl, fun _ => rfl⟩

/-- What is wrong with a name. -/
def metE (ms : List ByteArray) (s : ByteArray) : Nat := if wordB s = false then 3 else if inB s ms = true then 4 else 0

set_option maxRecDepth 100000 in
set_option maxHeartbeats 1600000 in
theorem meet_calls (ms : List ByteArray) (s : ByteArray) (hs : s.size ≤ 140737488355328) (b : Nat) (w : World) (hm : Met w b ms) (hl : ms.length ≤ 1000) :
    Calls Tryd.prog 28 #[.map (some b), .string s] w fun e w' => e = .returned (.int .i64 (metE ms s : Int)) ∧ (metE ms s = 0 → Met w' b (ms ++ [s])) ∧ Only [b] w w' := by
  obtain ⟨D, hown, htd, hsz, hhas⟩ := hm
  have hkey : keyOf Tryd.prog 9 (.string s) = some (kOf s) := WideMaps.keyOf_string_mk Tryd.underlying9 (by unfold maxLen; omega)
  have hW := Lx.IsWord_calls s (by omega)
  obtain ⟨r, hr⟩ : ∃ r, wordB s = r := ⟨_, rfl⟩
  rw [show Lx.justB s 1 = r from hr] at hW
  have hh := hhas s
  obtain ⟨c, hc⟩ : ∃ c, inB s ms = c := ⟨_, rfl⟩
  have hE : Hid (metE ms s = if r = false then 3 else if c = true then 4 else 0) := by
    show _ = _
    unfold metE
    rw [hr, hc]
  rw [hc] at hh
  generalize metE ms s = me at *
  have HC : Hid (inB s ms = c) := hc
  clear hc hr
  cases r
  · go_enter Tryd.func28, Tryd.ntmps28
    go_wp2_with (go_at_call 35; refine (hW _).mono ?_; rintro e w' ⟨rfl, rfl⟩)
    go_ret
    exact ⟨by rw [hE.out]; rfl, (fun h => by rw [hE.out] at h; cases h), Only.refl _ _⟩
  · have hwf : (Lit.int .i64 (Maps.size D : Int)).wf = true := WalkArith.wf_i64 (by rw [hsz]; omega)
    go_enter Tryd.func28, Tryd.ntmps28
    cases c
    · go_wp2_with (first
        | (go_at_call 35; refine (hW _).mono ?_; rintro e w' ⟨rfl, rfl⟩)
        | (at_lookup; refine wpList_lookup_own_ok_int _ rfl _ _ 83 rfl 9 3 .i64 law9 Tryd.underlying83 Tryd.underlying3 (zero3 _) b ms.length D rfl hown _ _ rfl hkey ?_; intro c hat hwc; rw [hh])
        | (at_len; refine wpList_len_own _ rfl _ 83 rfl 9 3 Tryd.underlying83 _ b ms.length D rfl hown ?_)
        | (at_mapUpdate; refine wpList_mapUpdate_own _ rfl _ _ _ 83 rfl 9 3 law9 Tryd.underlying83 _ b ms.length D rfl hown (by unfold maxLen; omega) _ _ _ rfl rfl hkey _ [] (plainElem_int Tryd.underlying3 hwf) ?_; intro w1 hown1 hgrow1))
      go_ret
      refine ⟨by rw [hE.out]; rfl, fun _ => ⟨_, by rw [List.length_append]; exact hown1, htd.put (keyLit s) _, ?_, fun x => ?_⟩, ⟨hgrow1.os, hgrow1.tape, hgrow1.output, hgrow1.size, fun k hk hn => hgrow1.block k hk (fun e => hn (by cases e; simp))⟩⟩
      · rw [size_put htd, hh, hsz, List.length_append]
        rfl
      · rw [inB_snoc]
        by_cases hx : s = x
        · subst hx
          rw [has_put_same htd.isMap (keyLit s)]
          simp
        · rw [has_put_other (fun e => hx (kOf_inj e).symm), hhas x]
          have : (s.data.toList == x.data.toList) = false := by
            rw [beq_eq_false_iff_ne]
            exact fun e => hx (ByteArray.ext (Array.toList_inj.1 e))
          rw [this, Bool.or_false]
    · go_wp2_with (first
        | (go_at_call 35; refine (hW _).mono ?_; rintro e w' ⟨rfl, rfl⟩)
        | (at_lookup; refine wpList_lookup_own_ok_int _ rfl _ _ 83 rfl 9 3 .i64 law9 Tryd.underlying83 Tryd.underlying3 (zero3 _) b ms.length D rfl hown _ _ rfl hkey ?_; intro c hat hwc; rw [hh]))
      go_ret
      exact ⟨by rw [hE.out]; rfl, (fun h => by rw [hE.out] at h; cases h), Only.refl _ _⟩

end Go.Proofs.YtdihplmlbfggjaaDoor
