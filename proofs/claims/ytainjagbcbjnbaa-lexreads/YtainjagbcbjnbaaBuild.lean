/-
  The contracts of the strings.Builder that lex.Print uses: copyCheck, WriteByte, WriteString; and of Print.
-/
import Derived.Test.YtainjagbcbjnbaaSplits
namespace Go.Proofs.Ytainjagbcbjnbaa
open Go Go.RowKit Go.Shelf Plain Lex

theorem info82 : (Try.prog.info? 82).map (·.size) = some 2 := by kernel_rfl
theorem lies82 : liesAt Try.prog Try.prog.depth 82 (2 / Try.prog.cellsOf 82) 0 82 1 = true := by kernel_rfl
theorem info5b : (Try.prog.info? 5).map (fun i => (i.zero, i.size, i.bytes)) = some (some (.int .u8 0), 1, 1) := by kernel_rfl

set_option maxRecDepth 100000 in
set_option maxHeartbeats 1000000 in
theorem copy_used (b : Nat) (w : World) (h0 : w.cell? ⟨b, 0, none⟩ = some (.pointer (some ⟨b, 0, none⟩))) :
    Calls Try.prog 51 #[.pointer (some ⟨b, 0, none⟩)] w fun e w' => e = .returned (.tuple #[]) ∧ w' = w := by
  obtain ⟨j, hj, _⟩ := Option.map_eq_some_iff.1 info82
  go_enter Try.func51, Try.ntmps51
  go_wp2
  rw [Lib.run_neq_ptr_same w _ Try.underlying80 hj]
  go_wp2
  go_end0
  exact ⟨rfl, rfl⟩

set_option maxRecDepth 100000 in
set_option maxHeartbeats 1000000 in
theorem copy_fresh (b : Nat) (w : World) (h0 : w.cell? ⟨b, 0, none⟩ = some (.pointer none)) (hsh : w.shape? b = some (82, 2)) (hfz : w.frozen? ⟨b, 0, none⟩ = false) :
    Calls Try.prog 51 #[.pointer (some ⟨b, 0, none⟩)] w fun e w' => e = .returned (.tuple #[]) ∧ w' = w.setCell ⟨b, 0, none⟩ (.pointer (some ⟨b, 0, none⟩)) := by
  obtain ⟨j, hj, hjs⟩ := Option.map_eq_some_iff.1 info82
  go_enter Try.func51, Try.ntmps51
  go_wp2
  rw [Lib.run_to_unsafe w ⟨b, 0, none⟩ Try.underlying80 Try.underlying102 hj (by rw [hjs]; decide) hsh (Nat.zero_lt_succ 1)]
  simp only [Result.andThen]
  rw [Oper.upon_value]
  go_wp2
  rw [run_callFunc_extern Try.func62 (by kernel_rfl) (by kernel_rfl) (by kernel_rfl) (e := Extern.AbiNoEscape.same) (by kernel_rfl)]
  rw [Lib.run_noEscape]
  simp only [Result.andThen]
  rw [Oper.upon_value]
  go_wp2
  rw [Lib.run_from_unsafe w ⟨b, 0, none⟩ Try.underlying102 Try.underlying80 hj hsh lies82]
  simp only [Result.andThen]
  rw [Oper.upon_value]
  go_wp2
  go_end0
  exact ⟨rfl, rfl⟩

/-- Tokens' boxes stand as they stood. -/
def K46 (w w' : World) : Prop := ∀ j vs, Blk w j 46 vs → Blk w' j 46 vs
theorem blk_ne {w : World} {i j : Nat} {s t : TypeId} {us vs : Array Value} (h : Blk w i s us) (k : Blk w j t vs) (hst : s ≠ t) : i ≠ j := by
  rintro rfl
  have := h.symm.trans k
  simp at this
  exact hst this.2

theorem copy_calls (B b : Nat) (bs : List Value) (w : World) (h : Lib.IsBuilder 82 5 B b bs w) :
    Calls Try.prog 51 #[.pointer (some ⟨b, 0, none⟩)] w fun e w' => e = .returned (.tuple #[]) ∧ Lib.BuilderAt 82 5 B b (.pointer (some ⟨b, 0, none⟩)) bs w' ∧ Below B w w' ∧ K46 w w' := by
  rcases h with h | h
  · refine (copy_fresh b w h.cell0 h.shape h.frozen0).mono ?_
    rintro e w' ⟨rfl, rfl⟩
    refine ⟨rfl, h.used _, (Below.refl B w).setCell (p := ⟨b, 0, none⟩) h.1 _, fun j vs hj => ?_⟩
    obtain ⟨_, v, hb, _⟩ := h
    exact hj.other (blk_ne hj (show Blk w b 82 _ from hb) (by decide)) 0 _
  · refine (copy_used b w h.cell0).mono ?_
    rintro e w' ⟨rfl, rfl⟩
    exact ⟨rfl, h, Below.refl B _, fun _ _ h => h⟩

set_option maxRecDepth 100000 in
set_option maxHeartbeats 1000000 in
theorem WriteByte_calls (B b : Nat) (bs : List Value) (c : Int) (w : World) (h : Lib.IsBuilder 82 5 B b bs w) (hlen : bs.length + 1 ≤ 140737488355328) (hBw : B ≤ w.heap.size) :
    Calls Try.prog 40 #[.pointer (some ⟨b, 0, none⟩), .int .u8 c] w fun e w' => e = .returned .nilIface ∧ Lib.BuilderAt 82 5 B b (.pointer (some ⟨b, 0, none⟩)) (bs ++ [.int .u8 c]) w' ∧ Below B w w' ∧ K46 w w' := by
  obtain ⟨i0, hi, hz0, hz1, hz2⟩ := info_parts info5b
  go_enter Try.func40, Try.ntmps40
  go_wp2_with (go_at_call 51; refine (copy_calls B b bs _ h).mono ?_)
  rintro e w1 ⟨rfl, ⟨hB, v, hbk, hown, hne⟩, hb1, hk1⟩
  have c1 : w1.cell? ⟨b, 1, none⟩ = some v := by rw [Lib.cell_of_heap hbk]; rfl
  have hBw1 : B ≤ w1.heap.size := Nat.le_trans hBw hb1.size
  go_wp2_with (at_builtin; refine wpList_append_own _ rfl _ _ 41 rfl B 5 i0 (.int .u8 0) 1 1 Try.underlying41 hi hz0 hz1 hz2 rfl (by decide) _ _ _ rfl (hown.alloc _) ⟨w1.heap.size, 0, none⟩ 1 1 [.int .u8 c] rfl rfl (cell_one_new _ _ _) (by simp [Value.oneCell']) (by unfold maxLen; omega) (by omega) (by simp; omega) ?_)
  intro v' w2 hown' hgrow _
  have hblk : Blk w1 b 82 #[.pointer (some ⟨b, 0, none⟩), v] := hbk
  have hb2 : Blk w2 b 82 #[.pointer (some ⟨b, 0, none⟩), v] := (hblk.alloc _).kept hgrow (fun e => hne e.symm)
  have d1 : w2.cell? ⟨b, 1, none⟩ = some v := hb2.cell 1
  have f1 : w2.frozen? ⟨b, 1, none⟩ = false := hb2.frozen 1
  obtain ⟨g, cap, rfl⟩ : ∃ g cap, v' = .slice (some ⟨g, 0, none⟩) (bs.length + 1) cap := ownsRow_succ hown'
  have hb3 : Below B w w2 := (hb1.alloc (by omega) _).grown hgrow (by simp; omega) (fun k hk => (hown.lt k hk).1)
  have hk2 : K46 w w2 := fun j vs hj => ((hk1 j vs hj).alloc _).kept hgrow (fun e => Lib.ownBlock_ne hown (hk1 j vs hj) (by decide) e.symm)
  go_wp2
  go_ret
  refine ⟨rfl, ?_, bset hb3 hB _, fun j vs hj => (hk2 j vs hj).other (blk_ne (hk2 j vs hj) hb2 (by decide)) 1 _⟩
  exact Lib.BuilderAt.put (T := 82) (e := 5) hB hb2 (bs' := bs ++ [.int .u8 c]) (by simpa using hown') (by decide)

set_option maxRecDepth 100000 in
set_option maxHeartbeats 1000000 in
theorem WriteString_calls (B b : Nat) (bs : List Value) (s : ByteArray) (w : World) (h : Lib.IsBuilder 82 5 B b bs w) (hlen : bs.length + s.size ≤ 140737488355328) (hBw : B ≤ w.heap.size) :
    Calls Try.prog 41 #[.pointer (some ⟨b, 0, none⟩), .string s] w fun e w' => e = .returned (.tuple #[.int .i64 s.size, .nilIface]) ∧ Lib.BuilderAt 82 5 B b (.pointer (some ⟨b, 0, none⟩)) (bs ++ Lib.strCells s) w' ∧ Below B w w' ∧ K46 w w' := by
  obtain ⟨i0, hi, hz0, hz1, hz2⟩ := info_parts info5b
  go_enter Try.func41, Try.ntmps41
  go_wp2_with (go_at_call 51; refine (copy_calls B b bs _ h).mono ?_)
  rintro e w1 ⟨rfl, ⟨hB, v, hbk, hown, hne⟩, hb1, hk1⟩
  have c1 : w1.cell? ⟨b, 1, none⟩ = some v := by rw [Lib.cell_of_heap hbk]; rfl
  have hBw1 : B ≤ w1.heap.size := Nat.le_trans hBw hb1.size
  go_wp2_with (at_builtin; refine Lib.wpList_append_own_string _ rfl _ _ 41 9 rfl B 5 i0 Try.underlying41 Try.underlying9 hi hz0 hz1 hz2 _ _ _ rfl hown s rfl (by unfold maxLen; omega) (by omega) (by omega) ?_)
  intro v' w2 hown' hgrow _
  have hblk : Blk w1 b 82 #[.pointer (some ⟨b, 0, none⟩), v] := hbk
  have hb2 : Blk w2 b 82 #[.pointer (some ⟨b, 0, none⟩), v] := hblk.kept hgrow (fun e => hne e.symm)
  have d1 : w2.cell? ⟨b, 1, none⟩ = some v := hb2.cell 1
  have f1 : w2.frozen? ⟨b, 1, none⟩ = false := hb2.frozen 1
  have hput := Lib.BuilderAt.put (T := 82) (e := 5) (p := .pointer (some ⟨b, 0, none⟩)) hB hb2 (bs' := bs ++ Lib.strCells s) (by simpa [Lib.strCells_length] using hown') (by decide)
  have hb3 : Below B w w2 := hb1.grown hgrow (by omega) (fun k hk => (hown.lt k hk).1)
  obtain ⟨ao, n', cap, rfl⟩ : ∃ ao n' cap, v' = .slice ao n' cap := by
    rcases hown'.2 with ⟨hv, _⟩ | ⟨g, cap, cur, hv, _⟩
    · exact ⟨_, _, _, hv⟩
    · exact ⟨_, _, _, hv⟩
  have hk2 : K46 w w2 := fun j vs hj => (hk1 j vs hj).kept hgrow (fun e => Lib.ownBlock_ne hown (hk1 j vs hj) (by decide) e.symm)
  go_wp2
  go_ret2
  exact ⟨rfl, hput, bset hb3 hB _, fun j vs hj => (hk2 j vs hj).other (blk_ne (hk2 j vs hj) hb2 (by decide)) 1 _⟩

/-- The tokens' texts, a blank between any two. -/
def pj : List Tok → List UInt8
  | [] => []
  | t :: l => t.text.data.toList ++ l.flatMap (fun u => 32 :: u.text.data.toList)
theorem pj_snoc (l : List Tok) (t : Tok) (h : l ≠ []) : pj (l ++ [t]) = pj l ++ [32] ++ t.text.data.toList := by
  cases l with
  | nil => exact absurd rfl h
  | cons u l => simp [pj]
theorem pj_one (t : Tok) : pj [t] = t.text.data.toList := by simp [pj]

theorem byteCells_append (a b : List UInt8) : Lib.byteCells (a ++ b) = Lib.byteCells a ++ Lib.byteCells b := by simp [Lib.byteCells]
theorem strCells_bytes (s : ByteArray) : Lib.strCells s = Lib.byteCells s.data.toList := by
  simp [Lib.strCells, Lib.byteCells]
theorem isB_alloc {B b : Nat} {bs : List Value} {w : World} (h : Lib.IsBuilder 82 5 B b bs w) (o : Obj) : Lib.IsBuilder 82 5 B b bs (w.alloc o) := by
  rcases h with ⟨h1, v, h2, h3, h4⟩ | ⟨h1, v, h2, h3, h4⟩
  · exact .inl ⟨h1, v, Blk.alloc h2 o, h3.alloc o, h4⟩
  · exact .inr ⟨h1, v, Blk.alloc h2 o, h3.alloc o, h4⟩
theorem isB_new (w : World) (N : Nat) (h : w.heap.size = N) : Lib.IsBuilder 82 5 N N [] (w.alloc (.cells #[.pointer none, .slice none 0 0] 82)) :=
  .inl ⟨Nat.le_refl _, .slice none 0 0, Blk.new' w N 82 _ h, World.ownsRow_nil _ _ _ _, by simp [Value.ownBlock]⟩

set_option maxRecDepth 100000 in
set_option maxHeartbeats 1600000 in
theorem Print_calls (ts : List Tok) (v : Value) (B : Nat) (hl : ts.length ≤ 20000) (hmono : ∀ k, (pj (ts.take k)).length ≤ 1000000) (w : World) (hrow : TRow w B 46 v ts) :
    Calls Try.prog 17 #[v] w fun e w' => e = .returned (.string ⟨(pj ts).toArray⟩) ∧ Below w.heap.size w w' := by
  obtain ⟨a, cap, rfl, hcap, hat⟩ := hrow.shape
  have HA : Hid _ := hat
  clear hat hrow
  obtain ⟨N, hN⟩ : ∃ N, w.heap.size = N := ⟨_, rfl⟩
  have HN : Hid (w.heap.size = N) := hN
  rw [hN] at HA ⊢
  have HMo : Hid _ := hmono
  clear hmono
  go_enter Try.func17, Try.ntmps17
  go_wp2
  go_loopw [8] (fun i wr => ∃ k : Nat, k ≤ ts.length ∧ i = .int .i64 k ∧ Lib.IsBuilder 82 5 N N (Lib.byteCells (pj (ts.take k))) wr ∧ Below N w wr ∧ N < wr.heap.size)
    (fun i _ => ts.length - (intOf i).toNat)
  case atStart => exact ⟨0, Nat.zero_le _, rfl, isB_new w N hN, (Below.refl N w).alloc (by simp [hN]) _, by simp [hN]⟩
  case round =>
    obtain ⟨k, hk, rfl, hbd, hbl, hNr⟩ := hrel
    clear hN
    by_cases hlt : k < ts.length
    · obtain ⟨t, ht0⟩ : ∃ t, ts[k]? = some t := ⟨_, List.getElem?_eq_getElem hlt⟩
      obtain ⟨g, rfl, _, hg, a0, a1, a2⟩ := HA.out k t ht0
      have q0 := (hbl.cell (p := ⟨g, k * 3, none⟩) hg).trans a0
      have q1 := (hbl.cell (p := ⟨g, k * 3 + 1, none⟩) hg).trans a1
      have q2 := (hbl.cell (p := ⟨g, k * 3 + 2, none⟩) hg).trans a2
      clear a0 a1 a2
      have htk : ts.take (k + 1) = ts.take k ++ [t] := by rw [List.take_add_one, ht0]; rfl
      have hm1 := HMo.out k
      have hm2 := HMo.out (k + 1)
      obtain ⟨kd, tx, ps⟩ := t
      simp only at q0 q1 q2
      obtain ⟨M, hM⟩ : ∃ M, wr.heap.size = M := ⟨_, rfl⟩
      rw [hM] at hNr
      by_cases hk0 : k = 0
      · subst hk0
        have HP : Hid (pj (ts.take (0 + 1)) = tx.data.toList) := by
          show _ = _
          rw [htk]; simp [pj]
        rw [HP.out] at hm2
        have hbd' : Lib.IsBuilder 82 5 N N [] wr := by simpa [pj, Lib.byteCells] using hbd
        clear htk hbd hm1
        go_wp2_with fail
        generalize hW : wr.alloc (.cells #[.int .i64 kd, .string tx, .int .i64 ps] 46) = W
        have b1 : Lib.IsBuilder 82 5 N N [] W := by rw [← hW]; exact isB_alloc hbd' _
        have hb1 : Below N w W := by rw [← hW]; exact hbl.alloc (by omega) _
        have hN1 : N < W.heap.size := by rw [← hW]; simp; omega
        clear hW hbd' hbl hM
        refine (WriteString_calls N N [] tx _ b1 (by simp; simp at hm2; omega) (by omega)).mono ?_
        rintro e w2 ⟨rfl, hb2, hbb, _⟩
        have hb3 : Below N w w2 := hb1.trans hbb
        have hN2 : N < w2.heap.size := Nat.lt_of_lt_of_le hN1 hbb.size
        go_wp2
        refine ⟨⟨0 + 1, by omega, by go_num, .inr ?_, hb3, hN2⟩, by simp [intOf]; omega⟩
        rw [HP.out, ← strCells_bytes]
        simpa using hb2
      · have hne : ts.take k ≠ [] := by
          intro e
          have := congrArg List.length e
          rw [List.length_take, List.length_nil] at this
          omega
        have HP : Hid (pj (ts.take (k + 1)) = pj (ts.take k) ++ [32] ++ tx.data.toList) := by
          show _ = _
          rw [htk, pj_snoc _ _ hne]
        rw [HP.out] at hm2
        simp only [List.length_append, List.length_singleton] at hm2
        have hsx : tx.data.toList.length = tx.size := by simp
        have hbcl : ∀ l : List UInt8, (Lib.byteCells l).length = l.length := fun l => by simp [Lib.byteCells]
        generalize pj (ts.take k) = pk at *
        have hgt : decide ((0 : Int) < (k : Int)) = true := by simp; omega
        clear htk hne
        go_wp2_with fail
        generalize hW : wr.alloc (.cells #[.int .i64 kd, .string tx, .int .i64 ps] 46) = W
        have b1 : Lib.IsBuilder 82 5 N N (Lib.byteCells pk) W := by rw [← hW]; exact isB_alloc hbd _
        have hb1 : Below N w W := by rw [← hW]; exact hbl.alloc (by omega) _
        have hN1 : N < W.heap.size := by rw [← hW]; simp; omega
        have hbox : Blk W M 46 #[.int .i64 kd, .string tx, .int .i64 ps] := by rw [← hW]; exact Blk.new' wr M 46 _ hM
        clear hW hbd hbl hM
        refine (WriteByte_calls N N (Lib.byteCells pk) 32 _ b1 (by rw [hbcl]; omega) (by omega)).mono ?_
        rintro e w2 ⟨rfl, hb2, hbb, hk2⟩
        have hb3 : Below N w w2 := hb1.trans hbb
        have hN2 : N < w2.heap.size := Nat.lt_of_lt_of_le hN1 hbb.size
        have hbox2 := hk2 _ _ hbox
        have p1 : w2.cell? ⟨M, 1, none⟩ = some (.string tx) := hbox2.cell 1
        clear hbb hk2 hbox b1 hb1 hN1
        go_wp2_with fail
        refine (WriteString_calls N N _ tx _ (.inr hb2) (by rw [List.length_append, hbcl]; simp; omega) (by omega)).mono ?_
        rintro e w3 ⟨rfl, hb4, hbb, _⟩
        have hb5 : Below N w w3 := hb3.trans hbb
        have hN3 : N < w3.heap.size := Nat.lt_of_lt_of_le hN2 hbb.size
        go_wp2
        refine ⟨⟨k + 1, by omega, by go_num, .inr ?_, hb5, hN3⟩, by simp [intOf]; omega⟩
        rw [HP.out, byteCells_append, byteCells_append, ← strCells_bytes]
        exact hb4
    · obtain rfl : k = ts.length := by omega
      rw [List.take_length] at hbd
      go_wp2_with fail
      refine (Try.Builder_String_any N N (pj ts) _ hbd (by omega)).mono ?_
      rintro e w2 ⟨rfl, hb2⟩
      go_wp2
      go_ret
      exact ⟨rfl, hbl.trans hb2⟩

end Go.Proofs.Ytainjagbcbjnbaa
