/-
  Index: several texts in one file.
-/
import Derived.Test.YtdihplmlbfggjaaGreatDoorCopies
import Derived.Tactics
import Derived.Tactics2
import Derived.Defers
import Derived.Laws.Pointers
import Derived.Laws.LoneSync
import Derived.RegionTactic
import Derived.RegionCalls
import Derived.Laws.NewBlocks
import Derived.IntWalk
/-
  The numbers of a table's names, kept in a map: what the closure of (*Index).find lays.
-/
namespace Go.Proofs.YtdihplmlbfggjaaGreatDoor
open Go Go.RowKit Go.Maps

/-- THE MAP IN BLOCK b HAS JUST THESE NAMES, each with its place. -/
def Nums (w : World) (b : Nat) (ns : List ByteArray) : Prop :=
  ∃ D : DataW Unit, w.ownsMap Tryz.prog 9 (plainElem Tryz.prog 3) b ns.length D ∧ Tidy D ∧ (∀ s : ByteArray, Maps.has D (kOf s) = inB s ns) ∧ ∀ (i : Nat) (s : ByteArray), ns[i]? = some s → D.atKey (kOf s) (.lit (.int .i64 0)) = .lit (.int .i64 i)
theorem Nums.keep {w w' : World} {b : Nat} {ns : List ByteArray} (h : Nums w b ns) (hb : w'.heap[b]? = w.heap[b]?) : Nums w' b ns := by
  obtain ⟨D, ⟨es, clock, h1, h2⟩, h3⟩ := h
  exact ⟨D, ⟨es, clock, hb.trans h1, h2⟩, h3⟩
theorem Nums.lt {w : World} {b : Nat} {ns : List ByteArray} (h : Nums w b ns) : b < w.heap.size := by
  obtain ⟨D, h1, _⟩ := h
  exact h1.lt
theorem Nums.new (w : World) : Nums (w.alloc (.map #[] 0)) w.heap.size [] := ⟨.map [], World.ownsMap_made w _ _ _, tidy_empty, fun _ => rfl, fun i s h => by simp at h⟩
theorem Nums.only {S : List Nat} {w w' : World} {b : Nat} {ns : List ByteArray} (h : Nums w b ns) (hk : Only S w w') (hb : b ∉ S) : Nums w' b ns := h.keep (hk.block b h.lt hb)
/-- A name more. -/
theorem nums_put {w : World} {b : Nat} {ns : List ByteArray} {D : DataW Unit} {s : ByteArray} {n : Nat} (hn : ns.length = n) (hown : w.ownsMap Tryz.prog 9 (plainElem Tryz.prog 3) b (n + 1) (D.put (kOf s) (.lit (.int .i64 n)))) (htd : Tidy D) (hh : ∀ s : ByteArray, Maps.has D (kOf s) = inB s ns)
    (hv : ∀ (i : Nat) (s : ByteArray), ns[i]? = some s → D.atKey (kOf s) (.lit (.int .i64 0)) = .lit (.int .i64 i)) (hnew : s ∉ ns) : Nums w b (ns ++ [s]) := by
  refine ⟨_, by rw [List.length_append, hn]; exact hown, htd.put (keyLit s) _, fun x => ?_, fun i x hi => ?_⟩
  · rw [inB_snoc]
    by_cases hx : s = x
    · subst hx
      rw [has_put_same htd.isMap (keyLit s)]
      simp
    · rw [has_put_other (fun e => hx (kOf_inj e).symm), hh x]
      have : (s.data.toList == x.data.toList) = false := by
        rw [beq_eq_false_iff_ne]
        exact fun e => hx (ByteArray.ext (Array.toList_inj.1 e))
      rw [this, Bool.or_false]
  · by_cases hl : i < ns.length
    · rw [List.getElem?_append_left hl] at hi
      have hne : x ≠ s := fun e => hnew (e ▸ List.mem_of_getElem? hi)
      rw [atKey_put_other (fun e => hne (kOf_inj e))]
      exact hv i x hi
    · rw [List.getElem?_append_right (by omega)] at hi
      have h0 : i - ns.length = 0 := by
        have := (List.getElem?_eq_some_iff.1 hi).1
        simp at this
        omega
      rw [h0] at hi
      obtain rfl : s = x := by simpa using hi
      rw [atKey_put_same htd.isMap (keyLit s)]
      rw [show n = i by omega]

set_option maxRecDepth 100000 in
set_option maxHeartbeats 3200000 in
theorem find1_calls (bs : List ByteArray) (cs : List Cn) (ok : Nat → Prop) (va vb x2 x3 x4 x5 : Value) (B P : Nat) (w : World) (hp : Blk w P 31 #[.pointer (some ⟨B, 0, none⟩)]) (hB : Blk w B 77 #[va, vb, x2, x3, x4, x5])
    (hS : HoldsS w ok bs va) (hC : HoldsC w ok cs vb) (hok : ¬ ok B) (hPB : P ≠ B) (fs : FitS bs) (fc : FitC cs) (hlen : bs.length + cs.length ≤ 1000) (hnd : (bs ++ cs.map Cn.name).Nodup) :
    Calls Tryz.prog 41 #[.pointer (some ⟨P, 0, none⟩)] w fun e w' => e = .returned (.tuple #[]) ∧ ∃ M, w.heap.size ≤ M ∧ Blk w' B 77 #[va, vb, x2, x3, x4, .map (some M)] ∧ Nums w' M (bs ++ cs.map Cn.name) ∧ Only [B] w w' := by
  obtain ⟨N, hN⟩ : ∃ N, w.heap.size = N := ⟨_, rfl⟩
  have hS' : HoldsS w (fun b => b < N ∧ b ≠ B) bs va := hS.mono fun b hb ho => ⟨by omega, fun e => hok (e ▸ ho)⟩
  have hC' : HoldsC w (fun b => b < N ∧ b ≠ B) cs vb := hC.mono fun b hb ho => ⟨by omega, fun e => hok (e ▸ ho)⟩
  obtain ⟨a, cap, rfl, hcap, hnil, hat⟩ := hS'
  obtain ⟨c, cap', rfl, hcap', hnil', hct⟩ := hC'
  rw [hN]
  have hmm := @run_makeMap Tryz.prog
  have HA : Hid _ := hat
  have HC : Hid _ := hct
  have HD : Hid _ := hnd
  obtain ⟨nb, hnb⟩ : ∃ nb, bs.length = nb := ⟨_, rfl⟩
  obtain ⟨nc, hnc⟩ : ∃ nc, cs.length = nc := ⟨_, rfl⟩
  have HNB : Hid (bs.length = nb) := hnb
  have HNC : Hid (cs.length = nc) := hnc
  rw [hnb] at hcap hB hlen ⊢
  rw [hnc] at hcap' hB hlen ⊢
  clear hat hct hS hC hnb hnc hnil hnil' hnd
  have hlP := hp.lt
  have hlB := hB.lt
  have m0 : Nums (w.alloc (.map #[] 0)) N [] := by have := Nums.new w; rwa [hN] at this
  have p1 := hp.alloc (.map #[] 0)
  have B1 := hB.alloc (.map #[] 0)
  have o1 : Only [B] w (w.alloc (.map #[] 0)) := (Only.refl _ _).alloc _
  go_enter Tryz.func41, Tryz.ntmps41
  have q0 := hp.cell 0
  have q1 := hB.cell 5
  have q2 := hB.frozen 5
  have r0 := p1.cell 0
  have r1 := B1.cell 5
  have r2 := B1.frozen 5
  have B2 : Blk ((w.alloc (.map #[] 0)).setCell ⟨B, 5, none⟩ (.map (some N))) B 77 #[.slice a nb cap, .slice c nc cap', x2, x3, x4, .map (some N)] := B1.set 5 _
  have p2 := p1.other (B' := B) hPB 5 (.map (some N))
  have m2 : Nums ((w.alloc (.map #[] 0)).setCell ⟨B, 5, none⟩ (.map (some N))) N [] := m0.only (S := [B]) ((Only.refl _ _).set (by simp) 5 _) (by simp; omega)
  have o2 := o1.set (B := B) (by simp) 5 (.map (some N))
  have s0 := B2.cell 0
  have s1 := p2.cell 0
  clear m0 p1 B1 o1
  go_wp2_with fail
  all_goals generalize (w.alloc (.map #[] 0)).setCell ⟨B, 5, none⟩ (.map (some N)) = W2 at *
  clear q0 q1 q2 r0 r1 r2 s0 s1 hp hB
  go_loopw [15] (fun i wr => ∃ (k : Nat), k ≤ nb ∧ i = .int .i64 k ∧ Blk wr P 31 #[.pointer (some ⟨B, 0, none⟩)] ∧ Blk wr B 77 #[.slice a nb cap, .slice c nc cap', x2, x3, x4, .map (some N)] ∧ Nums wr N (bs.take k) ∧ Only [B] w wr) (fun i _ => nb - (intOf i).toNat)
  case atStart => exact ⟨0, Nat.zero_le _, rfl, p2, B2, m2, o2⟩
  case round =>
    clear p2 B2 m2 o2
    obtain ⟨k, hk, rfl, p2, B2, m2, o2⟩ := hrel
    by_cases hlt : k < nb
    · obtain ⟨s, hs⟩ : ∃ s, bs[k]? = some s := ⟨_, List.getElem?_eq_getElem (by rw [HNB.out]; exact hlt)⟩
      obtain ⟨g, o, rfl, ⟨hg, hgB⟩, q0⟩ := HA.out k s hs
      have q1 := (o2.cell (p := ⟨g, o + k, none⟩) (by show g < _; omega) (by simpa using hgB)).trans q0
      have y1 : (0 : Int) ≤ (k : Int) := by omega
      have y2 : (k : Int) < (nb : Int) := by omega
      have z1 : decide ((k : Int) < (nb : Int)) = true := by simp; omega
      have hnm := fs s (List.mem_of_getElem? hs)
      have hkey : keyOf Tryz.prog 9 (.string s) = some (kOf s) := WideMaps.keyOf_string_mk Tryz.underlying9 (by unfold maxLen; omega)
      have hwf : (Lit.int .i64 (k : Int)).wf = true := WalkArith.wf_i64 (by omega)
      have HT : Hid (bs.take (k + 1) = bs.take k ++ [s]) := by show _ = _; rw [List.take_add_one, hs]; rfl
      have HL : Hid ((bs.take k).length = k) := by show _ = _; rw [List.length_take, HNB.out]; omega
      have HN : Hid (s ∉ bs.take k) := fun hm => by
        have hd := (List.nodup_append.1 HD.out).1
        have : (bs.take k ++ [s]).Nodup := HT.out ▸ (List.take_sublist _ _).nodup hd
        exact (List.nodup_append.1 this).2.2 s hm s (by simp) rfl
      obtain ⟨D, hown, htd, hh, hv⟩ := m2
      rw [HL.out] at hown
      have Hh : Hid _ := hh
      have Hv : Hid _ := hv
      have s0 := p2.cell 0
      have s1 := B2.cell 5
      clear q0 hs hh hv
      go_wp2_with (at_mapUpdate; refine wpList_mapUpdate_own _ rfl _ _ _ 75 rfl 9 3 law9 Tryz.underlying75 _ N k D rfl hown (by unfold maxLen; omega) _ _ _ rfl rfl hkey _ [] (plainElem_int Tryz.underlying3 hwf) ?_; intro w1 hown1 hgrow1; have HO : Only [N] wr w1 := ⟨hgrow1.os, hgrow1.tape, hgrow1.output, hgrow1.size, fun k hk hn => hgrow1.block k hk (fun e => hn (by cases e; simp))⟩; clear hgrow1)
      have o3 : Only [B] w w1 := o2.then HO (by simp; omega)
      have m3 := nums_put HL.out hown1 htd Hh.out Hv.out HN.out
      rw [← HT.out] at m3
      exact ⟨⟨k + 1, by omega, by go_num, p2.only HO (by simp; omega), B2.only HO (by simp; omega), m3, o3⟩, by simp [intOf]; omega⟩
    · obtain rfl : k = nb := by omega
      rw [List.take_of_length_le (by rw [HNB.out]; exact Nat.le_refl _)] at m2
      have z1 : decide ((k : Int) < (k : Int)) = false := by simp
      have s0 := p2.cell 0
      have s1 := B2.cell 1
      go_wp2_with fail
      go_loopw [33] (fun i wr => ∃ (j : Nat), j ≤ nc ∧ i = .int .i64 j ∧ Blk wr P 31 #[.pointer (some ⟨B, 0, none⟩)] ∧ Blk wr B 77 #[.slice a k cap, .slice c nc cap', x2, x3, x4, .map (some N)] ∧ Nums wr N (bs ++ (cs.take j).map Cn.name) ∧ Only [B] w wr) (fun i _ => nc - (intOf i).toNat)
      case atStart => exact ⟨0, Nat.zero_le _, rfl, p2, B2, by rw [List.take_zero, List.map_nil, List.append_nil]; exact m2, o2⟩
      case round =>
        clear p2 B2 m2 o2 s0 s1
        obtain ⟨j, hj, rfl, p2, B2, m2, o2⟩ := hrel
        by_cases hlt2 : j < nc
        · obtain ⟨x, hx⟩ : ∃ x, cs[j]? = some x := ⟨_, List.getElem?_eq_getElem (by rw [HNC.out]; exact hlt2)⟩
          obtain ⟨g, o, s, rfl, ⟨hg, hgB⟩, q0, q1, q2, hs⟩ := HC.out j x hx
          have t0 := (o2.cell (p := ⟨g, o + j * 3, none⟩) (by show g < _; omega) (by simpa using hgB)).trans q0
          have t1 := (o2.cell (p := ⟨g, o + j * 3 + 1, none⟩) (by show g < _; omega) (by simpa using hgB)).trans q1
          have t2 := (o2.cell (p := ⟨g, o + j * 3 + 2, none⟩) (by show g < _; omega) (by simpa using hgB)).trans q2
          obtain ⟨sa, sc, hsl, _⟩ := hs.shape
          generalize x.ty.args.length = sn at hsl
          subst hsl
          have y1 : (0 : Int) ≤ (j : Int) := by omega
          have y2 : (j : Int) < (nc : Int) := by omega
          have z2 : decide ((j : Int) < (nc : Int)) = true := by simp; omega
          have hnm := (fc x (List.mem_of_getElem? hx)).1
          have hkey : keyOf Tryz.prog 9 (.string x.name) = some (kOf x.name) := WideMaps.keyOf_string_mk Tryz.underlying9 (by unfold maxLen; omega)
          have hwf : (Lit.int .i64 ((k : Int) + (j : Int))).wf = true := WalkArith.wf_i64 (by omega)
          have HW : Hid (IntKind.i64.wrap ((k : Int) + (j : Int)) = (k : Int) + (j : Int)) := by show _ = _; rw [IntKind.wrap_i64]; omega
          have HT : Hid (bs ++ (cs.take (j + 1)).map Cn.name = bs ++ (cs.take j).map Cn.name ++ [x.name]) := by show _ = _; rw [List.take_add_one, hx, List.map_append, List.append_assoc]; rfl
          have HL : Hid ((bs ++ (cs.take j).map Cn.name).length = k + j) := by show _ = _; rw [List.length_append, List.length_map, List.length_take, HNB.out, HNC.out]; omega
          have HN : Hid (x.name ∉ bs ++ (cs.take j).map Cn.name) := fun hm => by
            have hsub : (bs ++ (cs.take (j + 1)).map Cn.name).Sublist (bs ++ cs.map Cn.name) := (List.Sublist.refl _).append ((List.take_sublist _ _).map _)
            have : (bs ++ (cs.take j).map Cn.name ++ [x.name]).Nodup := HT.out ▸ hsub.nodup HD.out
            exact (List.nodup_append.1 this).2.2 x.name hm x.name (by simp) rfl
          obtain ⟨W, hW⟩ : ∃ W, wr.alloc (.cells #[.string x.name, .slice sa sn sc, .int .i64 x.ty.base] 60) = W := ⟨_, rfl⟩
          obtain ⟨X, hX⟩ : ∃ X, wr.heap.size = X := ⟨_, rfl⟩
          have bX : Blk W X 60 #[.string x.name, .slice sa sn sc, .int .i64 x.ty.base] := by rw [← hW]; exact Blk.new' _ X 60 _ hX
          have p3 := p2.alloc (.cells #[.string x.name, .slice sa sn sc, .int .i64 x.ty.base] 60)
          have B3 := B2.alloc (.cells #[.string x.name, .slice sa sn sc, .int .i64 x.ty.base] 60)
          have o3 := o2.alloc (.cells #[.string x.name, .slice sa sn sc, .int .i64 x.ty.base] 60)
          have m3 : Nums W N _ := m2.only (S := []) (by rw [← hW]; exact (Only.refl _ _).alloc _) (by simp)
          rw [hW] at p3 B3 o3
          obtain ⟨D, hown, htd, hh, hv⟩ := m3
          rw [HL.out] at hown
          have Hh : Hid _ := hh
          have Hv : Hid _ := hv
          have s0 := p3.cell 0
          have s1 := B3.cell 5
          have s2 := B3.cell 0
          have s3 := bX.cell 0
          clear q0 q1 q2 hx hs hh hv p2 B2 o2 m2
          go_wp2_with fail
          go_still_tail 14, (by kernel_rfl)
          refine wpList_mapUpdate_own W.drew rfl _ _ _ 75 rfl 9 3 law9 Tryz.underlying75 _ N (k + j) D rfl hown.drew (by unfold maxLen; omega) _ _ _ rfl rfl hkey _ [] (plainElem_int Tryz.underlying3 (by rw [HW.out]; exact hwf)) ?_
          intro w1 hown1 hgrow1
          rw [HW.out] at hown1
          have HO : Only [N] W w1 := ⟨hgrow1.os, hgrow1.tape, hgrow1.output, hgrow1.size, fun k hk hn => hgrow1.block k hk (fun e => hn (by cases e; simp))⟩
          clear hgrow1
          have o4 : Only [B] w w1 := o3.then HO (by simp; omega)
          have m4 := nums_put (D := D) (s := x.name) HL.out (by rw [Int.natCast_add]; exact hown1) htd Hh.out Hv.out HN.out
          rw [← HT.out] at m4
          have p4 := p3.only HO (by simp; omega)
          have B4 := B3.only HO (by simp; omega)
          go_wp2
          exact ⟨⟨j + 1, by omega, by go_num, p4, B4, m4, o4⟩, by simp [intOf]; omega⟩
        · obtain rfl : j = nc := by omega
          rw [List.take_of_length_le (by rw [HNC.out]; exact Nat.le_refl _)] at m2
          have z2 : decide ((j : Int) < (j : Int)) = false := by simp
          go_wp2
          go_end0
          exact ⟨rfl, N, Nat.le_refl _, B2, m2, o2⟩

end Go.Proofs.YtdihplmlbfggjaaGreatDoor

/-
  Contracts of sync.Once's parts, one goroutine.
-/
namespace Go.Proofs.YtdihplmlbfggjaaGreatDoor
open Go Go.RowKit

theorem disable (w : World) : (callFunc 87 #[]).run Tryz.prog w = .ok (.value (.tuple #[])) w := run_call_mark0 Tryz.func87 (by kernel_rfl) (by kernel_rfl) (by kernel_rfl) .disable (by kernel_rfl) w
theorem enable (w : World) : (callFunc 89 #[]).run Tryz.prog w = .ok (.value (.tuple #[])) w := run_call_mark0 Tryz.func89 (by kernel_rfl) (by kernel_rfl) (by kernel_rfl) .enable (by kernel_rfl) w
theorem acquire (a : Addr) (w : World) : (callFunc 90 #[.pointer (some a)]).run Tryz.prog w = .ok (.value (.tuple #[])) w := run_call_marked Tryz.func90 (by kernel_rfl) (by kernel_rfl) (by kernel_rfl) .acquire (by kernel_rfl) a w
theorem releaseMerge (a : Addr) (w : World) : (callFunc 92 #[.pointer (some a)]).run Tryz.prog w = .ok (.value (.tuple #[])) w := run_call_marked Tryz.func92 (by kernel_rfl) (by kernel_rfl) (by kernel_rfl) .releaseMerge (by kernel_rfl) a w

/-- '(*sync/atomic.Bool).Store(true)', ENTERED AS A DEFERRED CALL: the cell holds 1. -/
theorem store_deferred (a : Addr) (x : Value) (u : FrameMode) (w : World) (hc : w.cell? a = some x) (hz : w.frozen? a = false) :
    CallsD Tryz.prog 65 #[.pointer (some a), .bool true] u w fun e u' w' => u' = u ∧ (e = .returned (.tuple #[]) ∧ w' = w.drew.setCell a (.int .u32 1)) := by
  have hc' : w.drew.cell? a = some x := by go_simp
  have hz' : w.drew.frozen? a = false := by go_simp
  have hst := run_call_store (P := Tryz.prog) Tryz.func78 (by kernel_rfl) (by kernel_rfl) (by kernel_rfl) (by kernel_rfl) (k := .u32) (y := 1) hc' hz'
  go_enter_d Tryz.func65, Tryz.ntmps65
  go_wp2
  go_region_calls
  all_goals (go_end0; exact ⟨rfl, rfl⟩)

/-- '(*sync/atomic.Bool).Load'. -/
theorem bool_load (a : Addr) (x : Int) (b : Bool) (hb : (x != 0) = b) (w : World) (hc : w.cell? a = some (.int .u32 x)) :
    Calls Tryz.prog 54 #[.pointer (some a)] w fun e w' => e = .returned (.bool b) ∧ w = w' := by
  have hl := run_call_load (P := Tryz.prog) Tryz.func62 (by kernel_rfl) (by kernel_rfl) (by kernel_rfl) .u32 (by kernel_rfl) hc
  go_enter Tryz.func54, Tryz.ntmps54
  go_wp2
  go_ret
  exact ⟨rfl, rfl⟩

set_option maxRecDepth 100000 in
/-- '(*sync.Mutex).Unlock', ENTERED AS A DEFERRED CALL, the lock held and nobody waiting (state 1): state 0. -/
theorem unlock_deferred (a : Addr) (u : FrameMode) (w : World) (hc : w.cell? a = some (.int .i32 1)) (hz : w.frozen? a = false) :
    CallsD Tryz.prog 64 #[.pointer (some a)] u w fun e u' w' => u' = u ∧ (e = .returned (.tuple #[]) ∧ w' = w.setCell a (.int .i32 0)) := by
  have hd := disable
  have he := enable
  have hr := releaseMerge
  have hadd := run_call_add (P := Tryz.prog) Tryz.func93 (by kernel_rfl) (by kernel_rfl) (by kernel_rfl) .i32 (by kernel_rfl) (y := -1) (s := 0) hc hz (by simp [go_sem]; rfl)
  have hcv := run_convert_to_unsafe (P := Tryz.prog) (src := 145) (dst := 149) Tryz.underlying145 Tryz.underlying149 (by kernel_rfl) hc
  go_enter_d Tryz.func64, Tryz.ntmps64
  go_wp2
  go_end0
  go_wp2
  go_end0
  exact ⟨rfl, rfl⟩

set_option maxRecDepth 100000 in
/-- '(*sync.Mutex).Lock', the lock free (state 0): state 1. -/
theorem lock_free (a : Addr) (w : World) (hc : w.cell? a = some (.int .i32 0)) (hz : w.frozen? a = false) :
    Calls Tryz.prog 63 #[.pointer (some a)] w fun e w' => e = .returned (.tuple #[]) ∧ w' = w.setCell a (.int .i32 1) := by
  have hd := disable
  have he := enable
  have ha := acquire
  have hcas := run_call_cas_hit (P := Tryz.prog) Tryz.func88 (by kernel_rfl) (by kernel_rfl) (by kernel_rfl) .i32 (by kernel_rfl) (y := 1) hc hz
  have hc' : (w.setCell a (.int .i32 1)).cell? a = some (.int .i32 1) := World.cell?_setCell_same w a _ hc
  have hcv := run_convert_to_unsafe (P := Tryz.prog) (src := 145) (dst := 149) Tryz.underlying145 Tryz.underlying149 (by kernel_rfl) hc'
  go_enter Tryz.func63, Tryz.ntmps63
  go_wp2
  first | go_end0 | (simp only [Exit.inBlock, Exit.then]; refine bodyPost_ret (results_none rfl _ _ _) rfl ?_) | refine bodyPost_ret (results_none rfl _ _ _) rfl ?_
  go_wp2
  go_end0
  exact ⟨rfl, rfl⟩

/-- '(*sync.Once).Do', done already: the function is not called. -/
theorem do_done (a : Addr) (fv : Value) (w : World) (h0 : w.cell? a = some (.int .u32 1)) :
    Calls Tryz.prog 40 #[.pointer (some a), fv] w fun e w' => e = .returned (.tuple #[]) ∧ w = w' := by
  have hnot : ∀ (x : Bool) (w : World), (Op.unary .not (.bool x)).run Tryz.prog w = .ok (.bool (!x)) w := fun _ _ => rfl
  go_enter Tryz.func40, Tryz.ntmps40
  go_wp2_with (go_at_call 54; refine (bool_load a 1 true rfl _ h0).mono ?_; rintro e w' ⟨rfl, rfl⟩)
  go_end0
  exact ⟨rfl, rfl⟩

end Go.Proofs.YtdihplmlbfggjaaGreatDoor

/-
  (*Index).find: the names' numbers are laid at the first question, and looked up.
-/
namespace Go.Proofs.YtdihplmlbfggjaaGreatDoor
open Go Go.RowKit Go.Maps

set_option maxRecDepth 100000 in
set_option maxHeartbeats 1600000 in
/-- '(*sync.Once).doSlow', not yet done and the lock free. -/
theorem slow_calls (bs : List ByteArray) (cs : List Cn) (ok : Nat → Prop) (va vb : Value) (B P : Nat) (w : World) (hp : Blk w P 31 #[.pointer (some ⟨B, 0, none⟩)]) (hB : Blk w B 77 #[va, vb, .int .u32 0, .int .i32 0, .int .u32 0, .map none])
    (hS : HoldsS w ok bs va) (hC : HoldsC w ok cs vb) (hok : ¬ ok B) (hPB : P ≠ B) (fs : FitS bs) (fc : FitC cs) (hlen : bs.length + cs.length ≤ 1000) (hnd : (bs ++ cs.map Cn.name).Nodup) :
    Calls Tryz.prog 55 #[.pointer (some ⟨B, 2, none⟩), .func (.func 41) #[] #[.pointer (some ⟨P, 0, none⟩)]] w fun e w' => e = .returned (.tuple #[]) ∧ ∃ M, w.heap.size ≤ M ∧ Blk w' B 77 #[va, vb, .int .u32 1, .int .i32 0, .int .u32 0, .map (some M)] ∧ Nums w' M (bs ++ cs.map Cn.name) ∧ Only [B] w w' := by
  have hnot : ∀ (x : Bool) (w : World), (Op.unary .not (.bool x)).run Tryz.prog w = .ok (.bool (!x)) w := fun _ _ => rfl
  have hnB : ∀ b, ok b → b ∉ [B] := fun b hb h => hok (by simp at h; exact h ▸ hb)
  obtain ⟨w1, hw1⟩ : ∃ w1, w.setCell ⟨B, 3, none⟩ (.int .i32 1) = w1 := ⟨_, rfl⟩
  have O1 : Only [B] w w1 := by rw [← hw1]; exact (Only.refl _ _).set (by simp) 3 _
  have B1 : Blk w1 B 77 #[va, vb, .int .u32 0, .int .i32 1, .int .u32 0, .map none] := by rw [← hw1]; exact hB.set 3 _
  have hs1 : w1.heap.size = w.heap.size := by rw [← hw1]; simp
  have hF := find1_calls bs cs ok va vb _ _ _ _ B P w1 (hp.only O1 (by simpa using hPB)) B1 (hS.only O1 hnB) (hC.only O1 hnB) hok hPB fs fc hlen hnd
  rw [hs1] at hF
  have HL := lock_free ⟨B, 3, none⟩ w (hB.cell 3) (hB.frozen 3)
  rw [hw1] at HL
  have HB := bool_load ⟨B, 2, none⟩ 0 false rfl w1 (B1.cell 2)
  clear hS hC hp hB B1 hw1
  go_enter_defers Tryz.func55, Tryz.ntmps55
  go_wp2_with (first
    | (go_at_call 63; refine HL.mono ?_; rintro e w' ⟨rfl, rfl⟩)
    | (go_at_call 54; refine HB.mono ?_; rintro e w' ⟨rfl, rfl⟩)
    | (go_at_call 41; refine hF.mono ?_; rintro e w2 ⟨rfl, M, hM, B2, m2, O2⟩))
  have O3 : Only [B] w w2 := O1.then O2 (by simp)
  have hMB : M ≠ B := by
    intro e
    subst e
    obtain ⟨D, ⟨es, cl, h1, _⟩, _⟩ := m2
    have := B2.symm.trans h1
    cases this
  obtain ⟨w3, hw3⟩ : ∃ w3, w2.drew.setCell ⟨B, 2, none⟩ (.int .u32 1) = w3 := ⟨_, rfl⟩
  have O4 : Only [B] w2 w3 := by rw [← hw3]; exact (Only.refl _ _).drew.set (by simp) 2 _
  have B3 : Blk w3 B 77 #[va, vb, .int .u32 1, .int .i32 1, .int .u32 0, .map (some M)] := by rw [← hw3]; exact B2.drew.set 2 _
  obtain ⟨w4, hw4⟩ : ∃ w4, w3.setCell ⟨B, 3, none⟩ (.int .i32 0) = w4 := ⟨_, rfl⟩
  have O5 : Only [B] w3 w4 := by rw [← hw4]; exact (Only.refl _ _).set (by simp) 3 _
  have B4 : Blk w4 B 77 #[va, vb, .int .u32 1, .int .i32 0, .int .u32 0, .map (some M)] := by rw [← hw4]; exact B3.set 3 _
  refine leaves_cons (f := 65) (args := #[.pointer (some ⟨B, 2, none⟩), .bool true]) (by simp) (by simp [go_sem]) ?_
  refine (store_deferred ⟨B, 2, none⟩ (.int .u32 0) .returning _ (B2.cell 2) (B2.frozen 2)).mono ?_
  rintro e u' w'' ⟨rfl, rfl, rfl⟩
  rw [hw3]
  refine leaves_cons (f := 64) (args := #[.pointer (some ⟨B, 3, none⟩)]) (by simp [settle]) (by simp [go_sem]) ?_
  refine (unlock_deferred ⟨B, 3, none⟩ _ _ (B3.cell 3) (B3.frozen 3)).mono ?_
  rintro e u' w'' ⟨rfl, rfl, rfl⟩
  rw [hw4]
  simp [Leaves, settle, results, Tryz.results55]
  exact ⟨M, hM, B4, m2.only (O4.trans O5) (by simpa using hMB), (O3.trans O4).trans O5⟩

end Go.Proofs.YtdihplmlbfggjaaGreatDoor

/-
  An index in memory, and the contracts of (*Index).find and New.
-/
namespace Go.Proofs.YtdihplmlbfggjaaGreatDoor
open Go Go.RowKit Go.Maps

/-- All names, the bases' first. -/
def names (bs : List ByteArray) (cs : List Cn) : List ByteArray := bs ++ cs.map Cn.name
/-- A table that a machine may hold and that is right as to its names. -/
structure RightT (bs : List ByteArray) (cs : List Cn) : Prop where
  fs : FitS bs
  fc : FitC cs
  len : bs.length + cs.length ≤ 1000
  nodup : (names bs cs).Nodup
  sm : ∀ s ∈ names bs cs, s.size ≤ 30
/-- AN INDEX IN BLOCK B, with this table. -/
def Ix (w : World) (B : Nat) (bs : List ByteArray) (cs : List Cn) : Prop :=
  ∃ va vb d m, Blk w B 77 #[va, vb, .int .u32 d, .int .i32 0, .int .u32 0, .map m] ∧ HoldsS w (fun b => b ≠ B) bs va ∧ HoldsC w (fun b => b ≠ B) cs vb ∧ ((d = 0 ∧ m = none) ∨ (d = 1 ∧ ∃ M, m = some M ∧ M ≠ B ∧ Nums w M (names bs cs)))
theorem Ix.lt {w : World} {B : Nat} {bs : List ByteArray} {cs : List Cn} (h : Ix w B bs cs) : B < w.heap.size := by
  obtain ⟨va, vb, d, m, h, _⟩ := h
  exact h.lt
theorem Ix.bel {w w' : World} {B : Nat} {bs : List ByteArray} {cs : List Cn} (h : Ix w B bs cs) (hb : Below w.heap.size w w') : Ix w' B bs cs := by
  obtain ⟨va, vb, d, m, h1, h2, h3, h4⟩ := h
  refine ⟨va, vb, d, m, h1.below hb h1.lt, h2.bel hb, h3.bel hb, h4.imp id ?_⟩
  rintro ⟨rfl, M, rfl, hM, hn⟩
  exact ⟨rfl, M, rfl, hM, hn.only (Only.of_below' (S := []) hb) (by simp)⟩
theorem Ix.drew {w : World} {B : Nat} {bs : List ByteArray} {cs : List Cn} (h : Ix w B bs cs) : Ix w.drew B bs cs := h.bel (Below.refl _ _).drew

set_option maxRecDepth 100000 in
set_option maxHeartbeats 1600000 in
theorem Do_calls (bs : List ByteArray) (cs : List Cn) (hT : RightT bs cs) (B P : Nat) (w : World) (hI : Ix w B bs cs) (hp : Blk w P 31 #[.pointer (some ⟨B, 0, none⟩)]) (hPB : P ≠ B) :
    Calls Tryz.prog 40 #[.pointer (some ⟨B, 2, none⟩), .func (.func 41) #[] #[.pointer (some ⟨P, 0, none⟩)]] w fun e w' => e = .returned (.tuple #[]) ∧
      ∃ va vb M, Blk w' B 77 #[va, vb, .int .u32 1, .int .i32 0, .int .u32 0, .map (some M)] ∧ HoldsS w' (fun b => b ≠ B) bs va ∧ HoldsC w' (fun b => b ≠ B) cs vb ∧ M ≠ B ∧ Nums w' M (names bs cs) ∧ Only [B] w w' := by
  have hnot : ∀ (x : Bool) (w : World), (Op.unary .not (.bool x)).run Tryz.prog w = .ok (.bool (!x)) w := fun _ _ => rfl
  obtain ⟨va, vb, d, m, hB, hS, hC, hd⟩ := hI
  rcases hd with ⟨rfl, rfl⟩ | ⟨rfl, M, rfl, hM, hN⟩
  · have hL := slow_calls bs cs (fun b => b ≠ B) va vb B P w hp hB hS hC (by simp) hPB hT.fs hT.fc hT.len hT.nodup
    have HB := bool_load ⟨B, 2, none⟩ 0 false rfl w (hB.cell 2)
    have hlB := hB.lt
    clear hB hp
    go_enter Tryz.func40, Tryz.ntmps40
    go_wp2_with (first
      | (go_at_call 55; refine hL.mono ?_; rintro e w' ⟨rfl, M, hM, hB, hN, hO⟩)
      | (go_at_call 54; refine HB.mono ?_; rintro e w' ⟨rfl, rfl⟩))
    go_end0
    exact ⟨rfl, va, vb, M, hB, hS.only hO (fun b hb => by simpa using hb), hC.only hO (fun b hb => by simpa using hb), by omega, hN, hO⟩
  · have HB := bool_load ⟨B, 2, none⟩ 1 true rfl w (hB.cell 2)
    go_enter Tryz.func40, Tryz.ntmps40
    go_wp2_with (go_at_call 54; refine HB.mono ?_; rintro e w' ⟨rfl, rfl⟩)
    go_end0
    exact ⟨rfl, va, vb, M, hB, hS, hC, hM, hN, Only.refl _ _⟩

set_option maxRecDepth 100000 in
set_option maxHeartbeats 1600000 in
theorem find_calls (bs : List ByteArray) (cs : List Cn) (hT : RightT bs cs) (s : ByteArray) (hs : s.size ≤ 281474976710656) (B : Nat) (w : World) (hI : Ix w B bs cs) :
    Calls Tryz.prog 28 #[.pointer (some ⟨B, 0, none⟩), .string s] w fun e w' => ∃ c : Int, e = .returned (.tuple #[.int .i64 c, .bool (inB s (names bs cs))]) ∧ (∀ i : Nat, (names bs cs)[i]? = some s → c = (i : Int)) ∧ Ix w' B bs cs ∧ Only [B] w w' := by
  have hmf : ∀ (fn : Fn) (first cap : Array Value) (w : World), (Instr.makeFunc fn first cap).run Tryz.prog w = .ok (.func fn first cap) w := fun _ _ _ _ => rfl
  have hkey : keyOf Tryz.prog 9 (.string s) = some (kOf s) := WideMaps.keyOf_string_mk Tryz.underlying9 (by unfold maxLen; omega)
  obtain ⟨N, hN⟩ : ∃ N, w.heap.size = N := ⟨_, rfl⟩
  have hlB := hI.lt
  obtain ⟨W, hW⟩ : ∃ W, w.alloc (.cells #[.pointer (some ⟨B, 0, none⟩)] 31) = W := ⟨_, rfl⟩
  have hp : Blk W N 31 #[.pointer (some ⟨B, 0, none⟩)] := by rw [← hW]; exact Blk.new' _ N 31 _ hN
  have O0 : Only [B] w W := by rw [← hW]; exact (Only.refl _ _).alloc _
  have hI0 : Ix W B bs cs := hI.bel (by rw [← hW]; exact (Below.refl _ _).alloc (Nat.le_refl _) _)
  have hD := Do_calls bs cs hT B N W hI0 hp (by omega)
  have s0 := hp.cell 0
  clear hI hI0
  go_enter Tryz.func28, Tryz.ntmps28
  go_wp2_with (first
    | (go_at_call 40; refine hD.mono ?_; rintro e w1 ⟨rfl, va, vb, M, hB, hS, hC, hM, ⟨D, hown, htd, hh, hv⟩, O1⟩; have s1 := (O1.cell (p := ⟨N, 0, none⟩) hp.lt (by simp; omega)).trans s0; have s2 := hB.cell 5; have hm : Nums w1 M (names bs cs) := ⟨D, hown, htd, hh, hv⟩; have hh1 := hh s; have Hv : Hid (∀ (i : Nat), (names bs cs)[i]? = some s → D.atKey (kOf s) (.lit (.int .i64 0)) = .lit (.int .i64 i)) := fun i => hv i s; clear hh hv)
    | (at_lookup; refine wpList_lookup_own_ok_int _ rfl _ _ 75 rfl 9 3 .i64 law9 Tryz.underlying75 Tryz.underlying3 (zero3 _) M (names bs cs).length D rfl hown _ _ rfl hkey ?_; intro c hat hwc; rw [hh1]))
  refine bodyPost_ret (v := .tuple #[.int .i64 c, .bool (inB s (names bs cs))]) (by simp [results, Tryz.results28, go_sem]) rfl ?_
  refine ⟨c, rfl, fun i hi => ?_, ⟨va, vb, 1, some M, hB, hS, hC, .inr ⟨rfl, M, rfl, hM, hm⟩⟩, O0.trans O1⟩
  have := hat.symm.trans (Hv.out i hi)
  injection this with h1
  injection h1

end Go.Proofs.YtdihplmlbfggjaaGreatDoor

