/-
  The numbers of a table's names, kept in a map: what the closure of (*Index).find lays.
-/
import Derived.Test.YtdihplmlbfggjaaDoorCopy
namespace Go.Proofs.YtdihplmlbfggjaaDoor
open Go Go.RowKit Go.Maps

/-- THE MAP IN BLOCK b HAS JUST THESE NAMES, each with its place. -/
def Nums (w : World) (b : Nat) (ns : List ByteArray) : Prop :=
  ∃ D : DataW Unit, w.ownsMap Tryd.prog 9 (plainElem Tryd.prog 3) b ns.length D ∧ Tidy D ∧ (∀ s : ByteArray, Maps.has D (kOf s) = inB s ns) ∧ ∀ (i : Nat) (s : ByteArray), ns[i]? = some s → D.atKey (kOf s) (.lit (.int .i64 0)) = .lit (.int .i64 i)
theorem Nums.keep {w w' : World} {b : Nat} {ns : List ByteArray} (h : Nums w b ns) (hb : w'.heap[b]? = w.heap[b]?) : Nums w' b ns := by
  obtain ⟨D, ⟨es, clock, h1, h2⟩, h3⟩ := h
  exact ⟨D, ⟨es, clock, hb.trans h1, h2⟩, h3⟩
theorem Nums.lt {w : World} {b : Nat} {ns : List ByteArray} (h : Nums w b ns) : b < w.heap.size := by
  obtain ⟨D, h1, _⟩ := h
  exact h1.lt
theorem Nums.new (w : World) : Nums (w.alloc (.map #[] 0)) w.heap.size [] := ⟨.map [], World.ownsMap_made w _ _ _, tidy_empty, fun _ => rfl, fun i s h => by simp at h⟩
theorem Nums.only {S : List Nat} {w w' : World} {b : Nat} {ns : List ByteArray} (h : Nums w b ns) (hk : Only S w w') (hb : b ∉ S) : Nums w' b ns := h.keep (hk.block b h.lt hb)
/-- A name more. -/
theorem nums_put {w : World} {b : Nat} {ns : List ByteArray} {D : DataW Unit} {s : ByteArray} {n : Nat} (hn : ns.length = n) (hown : w.ownsMap Tryd.prog 9 (plainElem Tryd.prog 3) b (n + 1) (D.put (kOf s) (.lit (.int .i64 n)))) (htd : Tidy D) (hh : ∀ s : ByteArray, Maps.has D (kOf s) = inB s ns)
    (hv : ∀ (i : Nat) (s : ByteArray), ns[i]? = some s → D.atKey (kOf s) (.lit (.int .i64 0)) = .lit (.int .i64 i)) (hnew : s ∉ ns) : Nums w b (ns ++ [s]) := by
  refine ⟨_, by rw [List.length_append, hn]; exact hown, htd.put (keyLit s) _, fun x => ?_, fun i x hi => ?_⟩
  · rw [inB_snoc]
    by_cases hx : s = x
    · subst hx
      rw [has_put_same htd.isMap (keyLit s)]
      simp
    · rw [has_put_other (fun e => hx (kOf_inj e).symm), hh x]
      have : (s.data.toList == x.data.toList) = false := by
        rw [beq_eq_false_iff_ne]
        exact fun e => hx (ByteArray.ext (Array.toList_inj.1 e))
      rw [this, Bool.or_false]
  · by_cases hl : i < ns.length
    · rw [List.getElem?_append_left hl] at hi
      have hne : x ≠ s := fun e => hnew (e ▸ List.mem_of_getElem? hi)
      rw [atKey_put_other (fun e => hne (kOf_inj e))]
      exact hv i x hi
    · rw [List.getElem?_append_right (by omega)] at hi
      have h0 : i - ns.length = 0 := by
        have := (List.getElem?_eq_some_iff.1 hi).1
        simp at this
        omega
      rw [h0] at hi
      obtain rfl : s = x := by simpa using hi
      rw [atKey_put_same htd.isMap (keyLit s)]
      rw [show n = i by omega]

set_option maxRecDepth 100000 in
set_option maxHeartbeats 3200000 in
theorem find1_calls (bs : List ByteArray) (cs : List Cn) (ok : Nat → Prop) (va vb x2 x3 x4 x5 : Value) (B P : Nat) (w : World) (hp : Blk w P 31 #[.pointer (some ⟨B, 0, none⟩)]) (hB : Blk w B 85 #[va, vb, x2, x3, x4, x5])
    (hS : HoldsS w ok bs va) (hC : HoldsC w ok cs vb) (hok : ¬ ok B) (hPB : P ≠ B) (fs : FitS bs) (fc : FitC cs) (hlen : bs.length + cs.length ≤ 1000) (hnd : (bs ++ cs.map Cn.name).Nodup) :
    Calls Tryd.prog 53 #[.pointer (some ⟨P, 0, none⟩)] w fun e w' => e = .returned (.tuple #[]) ∧ ∃ M, w.heap.size ≤ M ∧ Blk w' B 85 #[va, vb, x2, x3, x4, .map (some M)] ∧ Nums w' M (bs ++ cs.map Cn.name) ∧ Only [B] w w' := by
  obtain ⟨N, hN⟩ : ∃ N, w.heap.size = N := ⟨_, rfl⟩
  have hS' : HoldsS w (fun b => b < N ∧ b ≠ B) bs va := hS.mono fun b hb ho => ⟨by omega, fun e => hok (e ▸ ho)⟩
  have hC' : HoldsC w (fun b => b < N ∧ b ≠ B) cs vb := hC.mono fun b hb ho => ⟨by omega, fun e => hok (e ▸ ho)⟩
  obtain ⟨a, cap, rfl, hcap, hnil, hat⟩ := hS'
  obtain ⟨c, cap', rfl, hcap', hnil', hct⟩ := hC'
  rw [hN]
  have hmm := @run_makeMap Tryd.prog
  have HA : Hid _ := hat
  have HC : Hid _ := hct
  have HD : Hid _ := hnd
  obtain ⟨nb, hnb⟩ : ∃ nb, bs.length = nb := ⟨_, rfl⟩
  obtain ⟨nc, hnc⟩ : ∃ nc, cs.length = nc := ⟨_, rfl⟩
  have HNB : Hid (bs.length = nb) := hnb
  have HNC : Hid (cs.length = nc) := hnc
  rw [hnb] at hcap hB hlen ⊢
  rw [hnc] at hcap' hB hlen ⊢
  clear hat hct hS hC hnb hnc hnil hnil' hnd
  have hlP := hp.lt
  have hlB := hB.lt
  have m0 : Nums (w.alloc (.map #[] 0)) N [] := by have := Nums.new w; rwa [hN] at this
  have p1 := hp.alloc (.map #[] 0)
  have B1 := hB.alloc (.map #[] 0)
  have o1 : Only [B] w (w.alloc (.map #[] 0)) := (Only.refl _ _).alloc _
  go_enter Tryd.func53, Tryd.ntmps53
  have q0 := hp.cell 0
  have q1 := hB.cell 5
  have q2 := hB.frozen 5
  have r0 := p1.cell 0
  have r1 := B1.cell 5
  have r2 := B1.frozen 5
  have B2 : Blk ((w.alloc (.map #[] 0)).setCell ⟨B, 5, none⟩ (.map (some N))) B 85 #[.slice a nb cap, .slice c nc cap', x2, x3, x4, .map (some N)] := B1.set 5 _
  have p2 := p1.other (B' := B) hPB 5 (.map (some N))
  have m2 : Nums ((w.alloc (.map #[] 0)).setCell ⟨B, 5, none⟩ (.map (some N))) N [] := m0.only (S := [B]) ((Only.refl _ _).set (by simp) 5 _) (by simp; omega)
  have o2 := o1.set (B := B) (by simp) 5 (.map (some N))
  have s0 := B2.cell 0
  have s1 := p2.cell 0
  clear m0 p1 B1 o1
  go_wp2_with fail
  all_goals generalize (w.alloc (.map #[] 0)).setCell ⟨B, 5, none⟩ (.map (some N)) = W2 at *
  clear q0 q1 q2 r0 r1 r2 s0 s1 hp hB
  go_loopw [15] (fun i wr => ∃ (k : Nat), k ≤ nb ∧ i = .int .i64 k ∧ Blk wr P 31 #[.pointer (some ⟨B, 0, none⟩)] ∧ Blk wr B 85 #[.slice a nb cap, .slice c nc cap', x2, x3, x4, .map (some N)] ∧ Nums wr N (bs.take k) ∧ Only [B] w wr) (fun i _ => nb - (intOf i).toNat)
  case atStart => exact ⟨0, Nat.zero_le _, rfl, p2, B2, m2, o2⟩
  case round =>
    clear p2 B2 m2 o2
    obtain ⟨k, hk, rfl, p2, B2, m2, o2⟩ := hrel
    by_cases hlt : k < nb
    · obtain ⟨s, hs⟩ : ∃ s, bs[k]? = some s := ⟨_, List.getElem?_eq_getElem (by rw [HNB.out]; exact hlt)⟩
      obtain ⟨g, o, rfl, ⟨hg, hgB⟩, q0⟩ := HA.out k s hs
      have q1 := (o2.cell (p := ⟨g, o + k, none⟩) (by show g < _; omega) (by simpa using hgB)).trans q0
      have y1 : (0 : Int) ≤ (k : Int) := by omega
      have y2 : (k : Int) < (nb : Int) := by omega
      have z1 : decide ((k : Int) < (nb : Int)) = true := by simp; omega
      have hnm := fs s (List.mem_of_getElem? hs)
      have hkey : keyOf Tryd.prog 9 (.string s) = some (kOf s) := WideMaps.keyOf_string_mk Tryd.underlying9 (by unfold maxLen; omega)
      have hwf : (Lit.int .i64 (k : Int)).wf = true := WalkArith.wf_i64 (by omega)
      have HT : Hid (bs.take (k + 1) = bs.take k ++ [s]) := by show _ = _; rw [List.take_add_one, hs]; rfl
      have HL : Hid ((bs.take k).length = k) := by show _ = _; rw [List.length_take, HNB.out]; omega
      have HN : Hid (s ∉ bs.take k) := fun hm => by
        have hd := (List.nodup_append.1 HD.out).1
        have : (bs.take k ++ [s]).Nodup := HT.out ▸ (List.take_sublist _ _).nodup hd
        exact (List.nodup_append.1 this).2.2 s hm s (by simp) rfl
      obtain ⟨D, hown, htd, hh, hv⟩ := m2
      rw [HL.out] at hown
      have Hh : Hid _ := hh
      have Hv : Hid _ := hv
      have s0 := p2.cell 0
      have s1 := B2.cell 5
      clear q0 hs hh hv
      go_wp2_with (at_mapUpdate; refine wpList_mapUpdate_own _ rfl _ _ _ 83 rfl 9 3 law9 Tryd.underlying83 _ N k D rfl hown (by unfold maxLen; omega) _ _ _ rfl rfl hkey _ [] (plainElem_int Tryd.underlying3 hwf) ?_; intro w1 hown1 hgrow1; have HO : Only [N] wr w1 := ⟨hgrow1.os, hgrow1.tape, hgrow1.output, hgrow1.size, fun k hk hn => hgrow1.block k hk (fun e => hn (by cases e; simp))⟩; clear hgrow1)
      have o3 : Only [B] w w1 := o2.then HO (by simp; omega)
      have m3 := nums_put HL.out hown1 htd Hh.out Hv.out HN.out
      rw [← HT.out] at m3
      exact ⟨⟨k + 1, by omega, by go_num, p2.only HO (by simp; omega), B2.only HO (by simp; omega), m3, o3⟩, by simp [intOf]; omega⟩
    · obtain rfl : k = nb := by omega
      rw [List.take_of_length_le (by rw [HNB.out]; exact Nat.le_refl _)] at m2
      have z1 : decide ((k : Int) < (k : Int)) = false := by simp
      have s0 := p2.cell 0
      have s1 := B2.cell 1
      go_wp2_with fail
      go_loopw [33] (fun i wr => ∃ (j : Nat), j ≤ nc ∧ i = .int .i64 j ∧ Blk wr P 31 #[.pointer (some ⟨B, 0, none⟩)] ∧ Blk wr B 85 #[.slice a k cap, .slice c nc cap', x2, x3, x4, .map (some N)] ∧ Nums wr N (bs ++ (cs.take j).map Cn.name) ∧ Only [B] w wr) (fun i _ => nc - (intOf i).toNat)
      case atStart => exact ⟨0, Nat.zero_le _, rfl, p2, B2, by rw [List.take_zero, List.map_nil, List.append_nil]; exact m2, o2⟩
      case round =>
        clear p2 B2 m2 o2 s0 s1
        obtain ⟨j, hj, rfl, p2, B2, m2, o2⟩ := hrel
        by_cases hlt2 : j < nc
        · obtain ⟨x, hx⟩ : ∃ x, cs[j]? = some x := ⟨_, List.getElem?_eq_getElem (by rw [HNC.out]; exact hlt2)⟩
          obtain ⟨g, o, s, rfl, ⟨hg, hgB⟩, q0, q1, q2, hs⟩ := HC.out j x hx
          have t0 := (o2.cell (p := ⟨g, o + j * 3, none⟩) (by show g < _; omega) (by simpa using hgB)).trans q0
          have t1 := (o2.cell (p := ⟨g, o + j * 3 + 1, none⟩) (by show g < _; omega) (by simpa using hgB)).trans q1
          have t2 := (o2.cell (p := ⟨g, o + j * 3 + 2, none⟩) (by show g < _; omega) (by simpa using hgB)).trans q2
          obtain ⟨sa, sc, hsl, _⟩ := hs.shape
          generalize x.ty.args.length = sn at hsl
          subst hsl
          have y1 : (0 : Int) ≤ (j : Int) := by omega
          have y2 : (j : Int) < (nc : Int) := by omega
          have z2 : decide ((j : Int) < (nc : Int)) = true := by simp; omega
          have hnm := (fc x (List.mem_of_getElem? hx)).1
          have hkey : keyOf Tryd.prog 9 (.string x.name) = some (kOf x.name) := WideMaps.keyOf_string_mk Tryd.underlying9 (by unfold maxLen; omega)
          have hwf : (Lit.int .i64 ((k : Int) + (j : Int))).wf = true := WalkArith.wf_i64 (by omega)
          have HW : Hid (IntKind.i64.wrap ((k : Int) + (j : Int)) = (k : Int) + (j : Int)) := by show _ = _; rw [IntKind.wrap_i64]; omega
          have HT : Hid (bs ++ (cs.take (j + 1)).map Cn.name = bs ++ (cs.take j).map Cn.name ++ [x.name]) := by show _ = _; rw [List.take_add_one, hx, List.map_append, List.append_assoc]; rfl
          have HL : Hid ((bs ++ (cs.take j).map Cn.name).length = k + j) := by show _ = _; rw [List.length_append, List.length_map, List.length_take, HNB.out, HNC.out]; omega
          have HN : Hid (x.name ∉ bs ++ (cs.take j).map Cn.name) := fun hm => by
            have hsub : (bs ++ (cs.take (j + 1)).map Cn.name).Sublist (bs ++ cs.map Cn.name) := (List.Sublist.refl _).append ((List.take_sublist _ _).map _)
            have : (bs ++ (cs.take j).map Cn.name ++ [x.name]).Nodup := HT.out ▸ hsub.nodup HD.out
            exact (List.nodup_append.1 this).2.2 x.name hm x.name (by simp) rfl
          obtain ⟨W, hW⟩ : ∃ W, wr.alloc (.cells #[.string x.name, .slice sa sn sc, .int .i64 x.ty.base] 47) = W := ⟨_, rfl⟩
          obtain ⟨X, hX⟩ : ∃ X, wr.heap.size = X := ⟨_, rfl⟩
          have bX : Blk W X 47 #[.string x.name, .slice sa sn sc, .int .i64 x.ty.base] := by rw [← hW]; exact Blk.new' _ X 47 _ hX
          have p3 := p2.alloc (.cells #[.string x.name, .slice sa sn sc, .int .i64 x.ty.base] 47)
          have B3 := B2.alloc (.cells #[.string x.name, .slice sa sn sc, .int .i64 x.ty.base] 47)
          have o3 := o2.alloc (.cells #[.string x.name, .slice sa sn sc, .int .i64 x.ty.base] 47)
          have m3 : Nums W N _ := m2.only (S := []) (by rw [← hW]; exact (Only.refl _ _).alloc _) (by simp)
          rw [hW] at p3 B3 o3
          obtain ⟨D, hown, htd, hh, hv⟩ := m3
          rw [HL.out] at hown
          have Hh : Hid _ := hh
          have Hv : Hid _ := hv
          have s0 := p3.cell 0
          have s1 := B3.cell 5
          have s2 := B3.cell 0
          have s3 := bX.cell 0
          clear q0 q1 q2 hx hs hh hv p2 B2 o2 m2
          go_wp2_with fail
          go_still_tail 14, (by kernel_rfl)
          refine wpList_mapUpdate_own W.drew rfl _ _ _ 83 rfl 9 3 law9 Tryd.underlying83 _ N (k + j) D rfl hown.drew (by unfold maxLen; omega) _ _ _ rfl rfl hkey _ [] (plainElem_int Tryd.underlying3 (by rw [HW.out]; exact hwf)) ?_
          intro w1 hown1 hgrow1
          rw [HW.out] at hown1
          have HO : Only [N] W w1 := ⟨hgrow1.os, hgrow1.tape, hgrow1.output, hgrow1.size, fun k hk hn => hgrow1.block k hk (fun e => hn (by cases e; simp))⟩
          clear hgrow1
          have o4 : Only [B] w w1 := o3.then HO (by simp; omega)
          have m4 := nums_put (D := D) (s := x.name) HL.out (by rw [Int.natCast_add]; exact hown1) htd Hh.out Hv.out HN.out
          rw [← HT.out] at m4
          have p4 := p3.only HO (by simp; omega)
          have B4 := B3.only HO (by simp; omega)
          go_wp2
          exact ⟨⟨j + 1, by omega, by go_num, p4, B4, m4, o4⟩, by simp [intOf]; omega⟩
        · obtain rfl : j = nc := by omega
          rw [List.take_of_length_le (by rw [HNC.out]; exact Nat.le_refl _)] at m2
          have z2 : decide ((j : Int) < (j : Int)) = false := by simp
          go_wp2
          go_end0
          exact ⟨rfl, N, Nat.le_refl _, B2, m2, o2⟩

end Go.Proofs.YtdihplmlbfggjaaDoor
