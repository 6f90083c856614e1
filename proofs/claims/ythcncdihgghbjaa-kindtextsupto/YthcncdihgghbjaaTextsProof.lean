/-
  KindTexts: for every type and every list of names that hold together at most 1048576 values and letters, the type's text, or that it isn't right among as many bases as there are names, is the document's, and both read behind the call as they read before. The condition: that bulk.
-/
import Derived.Test.YthcncdihgghbjaaTexts
import Derived.Test.YthcncdihgghbjaaOpen
import Derived.JoinedCond
namespace Go.Proofs.Ythcncdihgghbjaa.kindTexts
open Go Go.ChangeShapes Go.WideShapes Go.ChangeAt Go.RowKit Go.Joins

theorem cells9 : Try.prog.cellsOf 9 = 1 := by kernel_rfl

theorem bulk_mem {H : Type} {d : DataW H} {l : List (DataW H)} (h : d ∈ l) : Rows.uptoBulk d ≤ Rows.uptoBulkAll l := by
  induction l with
  | nil => cases h
  | cons x r ih =>
    simp only [Rows.uptoBulkAll]
    cases List.mem_cons.1 h with
    | inl e => subst e; omega
    | inr e => have := ih e; omega

/-- Names that came in: the first twenty. -/
theorem names_open {H : Type} {enc : TypeId × Value → H} {W : World} {v : Value} {d : DataW H} {p : List MemPlace} (hv : ∃ a n c, v = .slice a n c) (h : DataW.Trod enc Try.prog W 0 (fun _ => true) true 50 v d p) :
    ∃ (na : Option Addr) (n ncap : Nat) (ns : List ByteArray), v = .slice na n ncap ∧ n ≤ ncap ∧ ncap ≤ 9223372036854775807 ∧ NamesAt W W.heap.size na ns ∧ ns.length = min n 20 ∧ ∀ s ∈ ns, s.size ≤ Rows.uptoBulk d := by
  obtain ⟨a, n, c, rfl⟩ := hv
  obtain ⟨m, hm⟩ := h
  rcases Deep.open_strs Try.underlying50 Try.underlying9 cells9 hm with ⟨hcs, _⟩ | ⟨ad, len, cap, k, Sx, hcs, _, hlc, hcm, hk, hx, hc⟩
  · simp [Value.cells] at hcs
    obtain ⟨rfl, rfl, rfl⟩ := hcs
    exact ⟨none, 0, 0, [], rfl, Nat.le_refl _, by omega, fun i s hi => by simp at hi, by simp, fun s hs => by cases hs⟩
  · simp [Value.cells] at hcs
    obtain ⟨rfl, rfl, rfl⟩ := hcs
    simp only [if_true] at hk
    subst hk
    refine ⟨some ad, n, k, (List.range (min n 20)).map Sx, rfl, hlc, by unfold maxLen at hcm; omega, fun i s hi => ?_, by simp, fun s hs => ?_⟩
    · rw [List.getElem?_map] at hi
      obtain ⟨j, hj, rfl⟩ := Option.map_eq_some_iff.1 hi
      obtain ⟨hjl, hj2⟩ := List.getElem?_eq_some_iff.1 hj
      rw [List.getElem_range] at hj2
      subst hj2
      simp at hjl
      have c0 := (hc 0 (by omega)).1
      have ci := (hc i (by omega)).1
      obtain ⟨b, off, spot⟩ := ad
      have c0' : W.cell? ⟨b, off, spot⟩ = some (.string (Sx 0)) := by simpa [Addr.add] using c0
      have hs : spot = none := World.cell?_spot c0'
      subst hs
      rw [add_plain] at ci
      exact ⟨b, off, rfl, lt_of_cell c0', ci⟩
    · obtain ⟨j, hj, rfl⟩ := List.mem_map.1 hs
      rw [List.mem_range] at hj
      have e : d = .slice ((List.range n).map fun i => .lit (.string (Sx i).data.toList)) ((List.range (k - n)).map fun j => .lit (.string (Sx (n + j)).data.toList)) := congrArg Prod.fst hx
      have hm := bulk_mem (H := H) (d := .lit (.string (Sx j).data.toList)) (l := (List.range n).map fun i => .lit (.string (Sx i).data.toList)) (List.mem_map.2 ⟨j, by rw [List.mem_range]; omega, rfl⟩)
      rw [e]
      simp only [Rows.uptoBulk] at hm ⊢
      have : (Sx j).size = (Sx j).data.toList.length := ba_size _
      omega

set_option maxRecDepth 100000 in
theorem contract (H : Type) (enc : TypeId × Value → H) (W : World) (base : Nat) (args : Array Value) (ds gs : List (DataW H)) (before : List MemPlace)
    (hval : ∀ (j : Nat) t v, Try.f6.params[j]? = some t → args[j]? = some v → Value.okWide Try.prog W .any base t v)
    (hW : DataW.Whole enc Try.prog Try.f6.params.toList Rows.kindTextsSpec.vars false W args.toList ds gs before) (hk : Rows.uptoSmall H (ds ++ gs) = true) :
    Calls Try.prog 6 args W fun e W' => ∃ v, e = .returned v ∧ Rows.kindTextsSpec.post enc Try.prog Try.f6 false true false false W args v W' := by
  have hW' := hW
  obtain ⟨p, q, hA0, hV, rfl, hfz, hnd⟩ := hW
  have hA : DataW.TrodAll enc Try.prog W 0 (fun _ => true) true Try.f6.params.toList args.toList ds p := hA0
  rw [Try.params6] at hA hval
  obtain ⟨v0, vs0, d0, ds0, p0, q0, hargs, rfl, rfl, h0, r0⟩ := trodAll_cons hA
  obtain ⟨v1, vs1, d1, ds1, p1, q1, rfl, rfl, rfl, h1, r1⟩ := trodAll_cons r0
  obtain ⟨rfl, rfl, rfl⟩ := trodAll_nil r1
  obtain rfl : args = #[v0, v1] := by cases args; simp_all
  obtain ⟨rfl, rfl⟩ := trodVars_none hV
  have k0 := h0
  have lt0 : ∀ x ∈ p0, x.block < W.heap.size := by obtain ⟨m, hm⟩ := k0; exact DataW.trod_lt m _ _ _ hm
  obtain ⟨t, sl, rfl, hh⟩ := type_open (hval 0 24 v0 rfl rfl) h0
  have k1 := h1
  have lt1 : ∀ x ∈ p1, x.block < W.heap.size := by obtain ⟨m, hm⟩ := k1; exact DataW.trod_lt m _ _ _ hm
  obtain ⟨na, n, ncap, ns, rfl, hnc, hn63, hna, hml, hsz⟩ := names_open (okWide_slice Try.underlying50 (hval 1 50 v1 rfl rfl)) h1
  have hb : Rows.uptoBulkAll [d0, d1] ≤ 1048576 := by
    have : Rows.uptoBulkAll ([d0, d1] ++ []) ≤ 1048576 := of_decide_eq_true hk
    simpa using this
  simp only [Rows.uptoBulkAll] at hb
  refine (texts_at t sl ns na n (min n 20) ncap W hh hna hml rfl hnc hn63 (fun s hs => by have := hsz s hs; omega)).mono fun e W' ⟨he, bel⟩ => ?_
  subst he
  exact ⟨_, rfl, _, _, _, [], _, [], hW', trodAll_mk1 (shut_bool Try.underlying4 _), (trodAll_cons_mk (Below.trod laidOut (by kernel_rfl) (of_decide_eq_true (by kernel_rfl)) k0 bel lt0) (trodAll_cons_mk (Below.trod laidOut (by kernel_rfl) (of_decide_eq_true (by kernel_rfl)) k1 bel lt1) trodAll_mk0)), rfl, bel.frame _, fun h => by cases h⟩

set_option maxRecDepth 100000 in
theorem lifted (os : Os) (started : os.Started) (H : Type) (enc : TypeId × Value → H) (F : Stop.Interp) :
    ReturnsInHanded {} Try.checked os 6 .any ((Rows.OpenSpec.upto Rows.kindTextsSpec).pre6 enc Try.prog Try.f6 Rows.kindTextsUptoRow.domain false) (((Rows.OpenSpec.upto Rows.kindTextsSpec).at F).post enc Try.prog Try.f6 false true false false) := by
  refine returnsInHanded_of_cond (C := Try.checked) (s := Rows.OpenSpec.upto Rows.kindTextsSpec) (k := Rows.uptoSmall) rfl own started (by kernel_rfl) Try.func6
    (OpenSpec.witness (enc := enc) (C := Try.checked) (s := Rows.OpenSpec.upto Rows.kindTextsSpec) (k := Rows.uptoSmall) rfl false ⟨#[], #[.agg #[.slice none 0 0, .int .i64 0], .slice none 0 0], []⟩ 8 (by kernel_rfl) (by kernel_rfl) (by kernel_rfl)
      (x := ([.agg [.nil, .lit (.int .i64 0)], .nil], [], [])) (by kernel_rfl) rfl (by kernel_rfl)) ?_
  intro W base args ds gs before hval hW _ hk _
  exact contract H enc W base args ds gs before hval hW hk

theorem said : Rows.KindTextsUptoSaid :=
  OpenClaim.holds_of_cond 6 Try.f6 rfl rfl rfl rfl rfl rfl rfl ⟨rfl, rfl, rfl, rfl, rfl⟩ rfl rfl rfl rfl rfl (by kernel_rfl) Try.func6 (by kernel_rfl)
    (of_decide_eq_true (by kernel_rfl)) (by unfold Func.isWrapper; first | (rw [if_pos (by decide +kernel)]; kernel_rfl) | (rw [if_neg (by decide +kernel)]; exact ⟨rfl, rfl⟩))
    (fun os started H enc _ F => lifted os started H enc F)
end Go.Proofs.Ythcncdihgghbjaa.kindTexts
namespace Go.Proofs.Ythcncdihgghbjaa
theorem kindTexts_holds : Rows.KindTextsUptoSaid := kindTexts.said
#print axioms kindTexts_holds
end Go.Proofs.Ythcncdihgghbjaa
