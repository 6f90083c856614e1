/-
  The law PlaceFirst is true for every list of faults: the fault that is ahead of all others is the first one of those, and none is ahead of it; one without an error is passed over (the statement PlaceFirstCardSaid; no condition beyond the row's own: the listed tables start as the program's text lays them).
-/
import Derived.Test.YtjmpacenlmoldaaDoorFirsts
import Derived.Test.YtjmpacenlmoldaaDoorFrame
import Derived.Deep.Slices
namespace Go.Proofs.YtjmpacenlmoldaaDoor
open Go Go.ChangeShapes Go.WideShapes Go.ChangeAt Go.RowKit Go.Joins Go.Shelf Go.Sort

set_option maxHeartbeats 800000 in
theorem firsts_empty (a : Addr) (cap : Nat) (w : World) (hL : Laid w) :
    Calls Tryd.prog 6 #[.slice (some a) 0 cap] w fun r w' => r = .returned (.bool true) ∧ Below w.heap.size w w' := by
  obtain ⟨N, hN⟩ : ∃ N, w.heap.size = N := ⟨_, rfl⟩
  have HN : Hid (w.heap.size = N) := hN
  go_enter Tryd.func6, Tryd.ntmps6
  go_wp2
  refine wp_loop_rounds 1 ?_; rw [rounds_succ]
  go_wp2_with fail
  refine (First_nil _).mono ?_
  rintro e w1 ⟨rfl, hb1⟩
  rw [hN] at hb1
  have hn1 : N ≤ w1.heap.size := by have := hb1.size; omega
  obtain ⟨M, hM⟩ : ∃ M, w1.heap.size = M := ⟨_, rfl⟩
  go_upto_region 12 with fail
  generalize hW : w1.alloc (.cells #[.int .i64 0, .int .i64 0, .int .i64 0, .string ⟨#[]⟩] 53) = W2
  have f2 : Blk W2 M 53 #[.int .i64 0, .int .i64 0, .int .i64 0, .string ⟨#[]⟩] := by rw [← hW]; exact Blk.new' w1 M 53 _ hM
  have B2 : Below N w W2 := by rw [← hW]; exact hb1.alloc hn1 _
  have hn2 : N ≤ W2.heap.size := by have := f2.lt; omega
  clear hW hM hN
  go_wp2_with fail
  refine (known_calls _ (hL.below (by rw [HN.out]; exact B2))).mono ?_
  rintro e w3 ⟨rfl, hb3⟩
  have B3 : Below N w w3 := B2.trans (hb3.mono hn2)
  have f3 := f2.below hb3 f2.lt
  have p0 : w3.cell? ⟨M, 0, none⟩ = some (.int .i64 0) := f3.cell 0
  have p1 : w3.cell? ⟨M, 1, none⟩ = some (.int .i64 0) := f3.cell 1
  have p2 : w3.cell? ⟨M, 2, none⟩ = some (.int .i64 0) := f3.cell 2
  have p3 : w3.cell? ⟨M, 3, none⟩ = some (.string ⟨#[]⟩) := f3.cell 3
  go_wp2
  go_ret
  exact ⟨rfl, by rw [HN.out]; exact B3⟩

/-- A fault as a datum. -/
def fdatum {H : Type} (x : Flt) : DataW H := .agg [.lit (.int .i64 x.c), .agg [.lit (.int .i64 x.a), .lit (.int .i64 x.b)], .lit (.string x.wd.data.toList)]

theorem fault_open {H : Type} {enc : TypeId × Value → H} {W : World} {base : Nat} {sp : Nat → Bool} {held : Bool} {n : Nat} {cs : List Value} {d : DataW H} {p : List MemPlace}
    (hl : cs.length = 4) (h : DataW.trod enc Tryd.prog W base sp held n 51 cs = some (d, p)) : ∃ x : Flt, cs = (fcells x).toList ∧ d = fdatum x := by
  match cs, hl with
  | [c0, c1, c2, c3], _ =>
    obtain ⟨y0, y1, y2, m, hx, _, t0, t1, t2⟩ := Deep.trod_struct3 Tryd.underlying51 h
    simp only [List.drop_zero, List.drop_succ_cons, cells3, cells23, cells9, List.take_succ_cons, List.take_zero] at t0 t1 t2
    obtain ⟨c, e0, rfl, wc⟩ := DataW.trod_int Tryd.underlying3 t0
    obtain ⟨z0, z1, m', rfl, _, s0, s1⟩ := trod_struct2 Tryd.underlying23 t1
    simp only [List.drop_zero, List.drop_succ_cons, cells3, List.take_succ_cons, List.take_zero] at s0 s1
    obtain ⟨a, e1, rfl, wa⟩ := DataW.trod_int Tryd.underlying3 s0
    obtain ⟨b, e2, rfl, wb⟩ := DataW.trod_int Tryd.underlying3 s1
    obtain ⟨wd, e3, rfl, hwd⟩ := DataW.trod_string Tryd.underlying9 t2
    simp only [List.cons.injEq, and_true] at e0 e1 e2 e3
    subst e0 e1 e2 e3
    simp only [Prod.mk.injEq] at hx
    exact ⟨⟨c, a, b, wd⟩, rfl, hx.1⟩

theorem weights_mem {H : Type} {P : Program} {e : TypeId} : ∀ {l : List (DataW H)} {d : DataW H} {x : Nat}, d ∈ l → x ∈ d.weights P e → x ∈ DataW.weightsAll P e l
  | y :: l, d, x, h, hx => by
    unfold DataW.weightsAll
    rcases List.mem_cons.1 h with rfl | h
    · exact List.mem_append_left _ hx
    · exact List.mem_append_right _ (weights_mem h hx)

theorem PlaceFirst_calls {H : Type} {enc : TypeId × Value → H} {W : World} {a0 : Option Addr} {len cap : Nat} {d : DataW H} {p : List MemPlace} (hL : Laid W)
    (h : DataW.Trod enc Tryd.prog W 0 (fun _ => true) true 48 (.slice a0 len cap) d p) (hsz : ∀ x ∈ d.weights Tryd.prog 48, x ≤ reachBytes) :
    Calls Tryd.prog 6 #[.slice a0 len cap] W fun r w' => r = .returned (.bool true) ∧ Below W.heap.size W w' := by
  obtain ⟨fuel, hf⟩ := h
  rcases Deep.open_slice Tryd.underlying48 hf with ⟨hcs, _⟩ | ⟨a, len', cap', m, n, D, Pl, hcs, _, hl, hm, hmm, hx, hall⟩
  · simp [Value.cells] at hcs
    obtain ⟨rfl, rfl, rfl⟩ := hcs
    exact firsts_nil W hL
  · simp [Value.cells] at hcs
    obtain ⟨rfl, rfl, rfl⟩ := hcs
    simp only [if_true] at hmm
    subst hmm
    rw [cells51] at hall
    have hF : ∀ i, i < m → ∃ x : Flt, (∀ j, j < 4 → W.cell? ((a.add (i * 4)).add j) = (fcells x)[j]?) ∧ D i = fdatum x := fun i hi => by
      obtain ⟨cs', h1, h2⟩ := hall i hi
      obtain ⟨_, hlen, hcell⟩ := World.cells?_some h1
      obtain ⟨x, rfl, hd⟩ := fault_open hlen h2
      exact ⟨x, fun j hj => by rw [hcell j hj]; simp, hd⟩
    obtain ⟨F, hFF⟩ := @Deep.choose_lt Flt ⟨⟨0, 0, 0, ⟨#[]⟩⟩⟩ m _ hF
    by_cases h0 : len = 0
    · subst h0; exact firsts_empty a m W hL
    · have c00 := (hFF 0 (by omega)).1 0 (by omega)
      obtain ⟨b, off, spot⟩ := a
      have hspot : spot = none := by
        have : W.cell? ⟨b, off, spot⟩ = some (.int .i64 (F 0).c) := by simpa [Addr.add, fcells] using c00
        exact World.cell?_spot this
      subst hspot
      have hbw : b < W.heap.size := by
        have : W.cell? ⟨b, off, none⟩ = some (.int .i64 (F 0).c) := by simpa [Addr.add, fcells] using c00
        exact block_lt_of_cell this
      have hget : ∀ i x, ((List.range (min len 50)).map F)[i]? = some x → i < min len 50 ∧ x = F i := fun i x h => by
        rw [List.getElem?_map, Option.map_eq_some_iff] at h
        obtain ⟨j, hj, rfl⟩ := h
        have := List.getElem?_eq_some_iff.1 hj
        obtain ⟨h1, h2⟩ := this
        simp at h1 h2
        exact ⟨by omega, by rw [h2]⟩
      have hadd : ∀ (i j : Nat), ((⟨b, off, none⟩ : Addr).add (i * 4)).add j = ⟨b, off + i * 4 + j, none⟩ := fun i j => by
        unfold Addr.add
        split <;> split <;> simp_all
      have hdx := congrArg Prod.fst hx
      simp only at hdx
      subst hdx
      have hw1 : m ≤ 4611686018427387904 := by
        have := hsz ((((List.range len).map D).length + ((List.range (m - len)).map fun j => D (len + j)).length) * Tryd.prog.bytesOf 51) (by simp only [DataW.weights, Tryd.underlying48]; exact List.mem_cons_self ..)
        have hby : Tryd.prog.bytesOf 51 = 40 := by kernel_rfl
        rw [hby] at this
        unfold reachBytes at this
        simp only [List.length_map, List.length_range] at this
        omega
      have hcap := hw1
      have hw2 : ∀ x ∈ DataW.weightsAll Tryd.prog 51 ((List.range len).map D), x ≤ reachBytes := fun x hxx => hsz x (by simp only [DataW.weights, Tryd.underlying48]; exact List.mem_cons_of_mem _ (List.mem_append_left _ hxx))
      refine firsts_loop b off len m ((List.range (min len 50)).map F) (by simp) hl hcap ?_ W hL hbw ?_
      · intro x hxm
        obtain ⟨i, hi, rfl⟩ := List.mem_map.1 hxm
        have hi' : i < len := by have := List.mem_range.1 hi; omega
        have hd := (hFF i (by omega)).2
        have hmem : (F i).wd.data.toList.length ∈ (D i).weights Tryd.prog 51 := by
          rw [hd]
          simp [fdatum, DataW.weights, DataW.weightsEach, Tryd.underlying51, Tryd.underlying23]
        have := hw2 _ (weights_mem (List.mem_map.2 ⟨i, List.mem_range.2 hi', rfl⟩) hmem)
        unfold reachBytes at this
        have e : (F i).wd.size = (F i).wd.data.toList.length := by simp
        omega
      · intro i x hix
        obtain ⟨hi, rfl⟩ := hget i x hix
        obtain ⟨hc, _⟩ := hFF i (by omega)
        have c0 := hc 0 (by omega)
        have c1 := hc 1 (by omega)
        have c2 := hc 2 (by omega)
        have c3 := hc 3 (by omega)
        rw [hadd] at c0 c1 c2 c3
        exact ⟨c0, c1, c2, c3⟩

end Go.Proofs.YtjmpacenlmoldaaDoor
namespace Go.Proofs.YtjmpacenlmoldaaDoor.placeFirst
open Go Go.ChangeShapes Go.WideShapes Go.ChangeAt Go.RowKit Go.Joins
open Go.ChangeMaps (open_string shut_string)

theorem contract (H : Type) (enc : TypeId × Value → H) (W : World) (base : Nat) (args : Array Value) (ds gs : List (DataW H)) (before : List MemPlace)
    (hval : ∀ (j : Nat) t v, Tryd.f6.params[j]? = some t → args[j]? = some v → Value.okWide Tryd.prog W .any base t v)
    (hW : DataW.Whole enc Tryd.prog Tryd.f6.params.toList Rows.placeFirstSpec.vars false W args.toList ds gs before)
    (hsz : (DataW.weightsEach Tryd.prog (Tryd.f6.params.toList ++ (OpenSpec.ofChange Rows.placeFirstSpec).bare.plain.varTypes Tryd.prog) (ds ++ gs)).all (· ≤ reachBytes) = true)
    (hL : laidMetH Tryd.prog Rows.placeFirstRow.laid W) :
    Calls Tryd.prog 6 args W fun e W' => ∃ v, e = .returned v ∧ Rows.placeFirstSpec.post enc Tryd.prog Tryd.f6 false true false false W args v W' := by
  have hLW : Laid W := laid_of hL
  have hW' := hW
  obtain ⟨p, q, hA0, hV, rfl, hfz, hnd⟩ := hW
  have hA : DataW.TrodAll enc Tryd.prog W 0 (fun _ => true) true Tryd.f6.params.toList args.toList ds p := hA0
  rw [Tryd.params6] at hA hval hsz
  obtain ⟨v0, vs0, d0, ds0, p0, q0, hargs, rfl, rfl, h0, r0⟩ := trodAll_cons hA
  obtain ⟨rfl, rfl, rfl⟩ := trodAll_nil r0
  obtain rfl : args = #[v0] := by cases args; simp_all
  obtain ⟨rfl, rfl⟩ := trodVars_none hV
  have k0 := h0
  have lt0 : ∀ x ∈ p0, x.block < W.heap.size := by obtain ⟨m, hm⟩ := k0; exact DataW.trod_lt m _ _ _ hm
  obtain ⟨a0, len, cap, rfl⟩ := okWide_slice Tryd.underlying48 (hval 0 48 v0 rfl rfl)
  refine (PlaceFirst_calls hLW h0 (fun x hx => ?_)).mono fun e W' ⟨he, bel⟩ => ?_
  · have := List.all_eq_true.1 hsz x (by simp only [List.cons_append, List.nil_append, DataW.weightsEach]; exact List.mem_append_left _ hx)
    simpa using this
  subst he
  exact ⟨_, rfl, _, _, _, [], _, [], hW', trodAll_mk1 (shut_bool Tryd.underlying4 _), (trodAll_cons_mk (Below.trod laidOut (by kernel_rfl) (of_decide_eq_true (by kernel_rfl)) k0 bel lt0) trodAll_mk0), rfl, bel.frame _, fun h => by cases h⟩

theorem laid_met (os : Os) : laidMet Tryd.prog Rows.placeFirstRow.laid ((laidWorld Tryd.prog os).forCall (fun _ _ => 0) ⟨#[], #[.slice none 0 0], []⟩).memory :=
  laidMet_of_run' 8 (by kernel_rfl) (by kernel_rfl)

set_option maxRecDepth 100000 in
theorem lifted (os : Os) (started : os.Started) (H : Type) (enc : TypeId × Value → H) (F : Stop.Interp) :
    ReturnsInHanded {} Tryd.checked os 6 .any ((OpenSpec.ofChange Rows.placeFirstSpec).preRow enc Tryd.prog Tryd.f6 Rows.placeFirstRow.domain false Rows.placeFirstRow.laid) (((OpenSpec.ofChange Rows.placeFirstSpec).at F).post enc Tryd.prog Tryd.f6 false true false false) := by
  have hx : DataW.whole enc Tryd.prog ((laidWorld Tryd.prog os).forCall (fun _ _ => 0) ⟨#[], #[.slice none 0 0], []⟩).memory Tryd.f6.params.toList Rows.placeFirstSpec.vars false (#[.slice none 0 0] : Array Value).toList 8 = some ([.nil], [], []) := by kernel_rfl
  refine returnsInHanded_of_row (C := Tryd.checked) (s := OpenSpec.ofChange Rows.placeFirstSpec) own started (by kernel_rfl) Tryd.func6
    (witness_row_at (enc := enc) (C := Tryd.checked) false (laidWorld Tryd.prog os) #[.slice none 0 0] rfl (by kernel_rfl) (by kernel_rfl) (by kernel_rfl)
      (OpenSpec.preRow_of_cond 8 hx (by kernel_rfl) (fun k hk => by cases hk) (by kernel_rfl) (laid_met os))) ?_
  intro W base args ds gs before hval hW _ _ hsz hL _ _
  exact contract H enc W base args ds gs before hval hW hsz hL

theorem said : Rows.PlaceFirstSaid :=
  OpenClaim.holds_of_cond 6 Tryd.f6 rfl rfl rfl rfl rfl rfl rfl ⟨rfl, rfl, rfl, rfl, rfl⟩ rfl rfl rfl rfl rfl (by kernel_rfl) Tryd.func6 (by kernel_rfl)
    (of_decide_eq_true (by kernel_rfl)) (by unfold Func.isWrapper; first | (rw [if_pos (by decide +kernel)]; kernel_rfl) | (rw [if_neg (by decide +kernel)]; exact ⟨rfl, rfl⟩))
    (fun os started H enc _ F => by rw [OpenClaim.pre_eq_preRow]; exact lifted os started H enc F)

/-- No parameter wants a stand-in; the program's own looks are off: what the card asks. -/
theorem plain (f : FuncId) (fn : Func) (hf : Tryd.pinned.checked.prog.funcNamed "filigree/filigreelaw01.PlaceFirst" = some f) (hfn : Tryd.pinned.checked.prog.funcs[f]? = some fn) :
    false = Tryd.pinned.checked.prog.looks [] ∧ ∀ (j : Nat) t, fn.params[j]? = some t → Tryd.pinned.checked.prog.wantsStandIn t = false := by
  obtain rfl : f = 6 := Option.some.inj ((show Tryd.prog.funcNamed "filigree/filigreelaw01.PlaceFirst" = some 6 by kernel_rfl).symm.trans hf) |>.symm
  obtain rfl : fn = Tryd.f6 := (Option.some.inj (Tryd.func6.symm.trans hfn)).symm
  refine ⟨by kernel_rfl, fun j t ht => ?_⟩
  rw [Tryd.params6] at ht
  obtain rfl : t = 48 := by simpa using Array.mem_of_getElem? ht
  exact (show Tryd.prog.wantsStandIn 48 = false by kernel_rfl)

/-- THE CARD. -/
theorem card : Rows.PlaceFirstCardSaid :=
  Claim7.holds_tied_plain_at .later [] _ _ _ _ said (fun _ h => by cases h) (by kernel_rfl) (fun _ h => by cases h) placeFirst_row_tie rfl ⟨rfl, rfl⟩ (by kernel_rfl) rfl plain (by kernel_rfl)
end Go.Proofs.YtjmpacenlmoldaaDoor.placeFirst
namespace Go.Proofs.YtjmpacenlmoldaaDoor
theorem placeFirst_holds : Rows.PlaceFirstCardSaid := placeFirst.card
#print axioms placeFirst_holds
end Go.Proofs.YtjmpacenlmoldaaDoor
