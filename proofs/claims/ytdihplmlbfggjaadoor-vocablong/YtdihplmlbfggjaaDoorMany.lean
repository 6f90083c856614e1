/-
  Many: several texts in one file.
-/
import Derived.Test.YtdihplmlbfggjaaDoorKnowns
import Derived.Laws.BytesArg
import Derived.Test.YtdihplmlbfggjaaDoorCopies
import Derived.Deep.AppendLies
/-
  The law's many words.
-/
namespace Go.Proofs.YtdihplmlbfggjaaDoor
open Go Go.RowKit Go.Maps

/-- One of many words. -/
def wordOf (i : Nat) : ByteArray := ⟨#[119, UInt8.ofNat (97 + i % 26), UInt8.ofNat (97 + i / 26 % 26), UInt8.ofNat (97 + i / 676 % 26)]⟩
theorem wordOf_all : ∀ i : Fin 1010, wordB (wordOf i.val) = true := by decide +kernel

theorem word_bytes (i : Nat) : strOfNums [119, 97 + (i : Int) % 26, 97 + (i : Int) / 26 % 26, 97 + (i : Int) / 676 % 26] = wordOf i := by
  have h1 : (97 + (i : Int) % 26).toNat = 97 + i % 26 := by omega
  have h2 : (97 + (i : Int) / 26 % 26).toNat = 97 + i / 26 % 26 := by omega
  have h3 : (97 + (i : Int) / 676 % 26).toNat = 97 + i / 676 % 26 := by omega
  simp only [strOfNums, List.map_cons, List.map_nil, h1, h2, h3]
  rfl
theorem ofNat_small {a b : Nat} (ha : a < 256) (hb : b < 256) (h : UInt8.ofNat a = UInt8.ofNat b) : a = b := by
  have := congrArg UInt8.toNat h
  rw [UInt8.toNat_ofNat', UInt8.toNat_ofNat'] at this
  omega
theorem wordOf_inj {i j : Nat} (hi : i < 17576) (hj : j < 17576) (h : wordOf i = wordOf j) : i = j := by
  have hd := congrArg (fun b : ByteArray => b.data.toList) h
  simp only [wordOf, List.cons.injEq, and_true, true_and] at hd
  have h1 := ofNat_small (by omega) (by omega) hd.1
  have h2 := ofNat_small (by omega) (by omega) hd.2.1
  have h3 := ofNat_small (by omega) (by omega) hd.2.2
  omega

set_option maxRecDepth 100000 in
set_option maxHeartbeats 400000 in
theorem word_calls (i : Nat) (hi : i < 1010) (w : World) : Calls Tryd.prog 15 #[.int .i64 i] w fun e w' => e = .returned (.string (wordOf i)) ∧ Below w.heap.size w w' := by
  have hconv := run_convert_bytes_arg (P := Tryd.prog) (w.alloc (.cells #[.int .u8 119, .int .u8 (97 + (i : Int) % 26), .int .u8 (97 + (i : Int) / 26 % 26), .int .u8 (97 + (i : Int) / 676 % 26)] 5)) 92 5 Tryd.underlying92 Tryd.underlying5 w.heap.size 0 4 4 [119, 97 + (i : Int) % 26, 97 + (i : Int) / 26 % 26, 97 + (i : Int) / 676 % 26] rfl
    (fun j hj => by
      have b := Blk.new w 5 #[.int .u8 119, .int .u8 (97 + (i : Int) % 26), .int .u8 (97 + (i : Int) / 26 % 26), .int .u8 (97 + (i : Int) / 676 % 26)]
      obtain rfl | rfl | rfl | rfl : j = 0 ∨ j = 1 ∨ j = 2 ∨ j = 3 := by omega
      · exact b.cell 0
      · exact b.cell 1
      · exact b.cell 2
      · exact b.cell 3)
  have hB := (Below.refl w.heap.size w).alloc (Nat.le_refl _) (.cells #[.int .u8 119, .int .u8 (97 + (i : Int) % 26), .int .u8 (97 + (i : Int) / 26 % 26), .int .u8 (97 + (i : Int) / 676 % 26)] 5)
  go_enter Tryd.func15, Tryd.ntmps15
  go_wp2
  go_ret
  refine ⟨?_, hB⟩
  rw [← word_bytes]
  rfl

end Go.Proofs.YtdihplmlbfggjaaDoor

/-
  What is wrong with tables of many words.
-/
namespace Go.Proofs.YtdihplmlbfggjaaDoor
open Go Go.RowKit Go.Maps

theorem metE_ok {ms : List ByteArray} {s : ByteArray} (hw : wordB s = true) (hn : s ∉ ms) : metE ms s = 0 := by
  unfold metE
  rw [if_neg (by rw [hw]; simp), if_neg (fun h => hn ((inB_iff s ms).1 h))]
theorem chkB_ok (l : List ByteArray) : ∀ ms : List ByteArray, (ms ++ l).Nodup → (∀ s ∈ l, wordB s = true) → chkB ms l = 0 := by
  induction l with
  | nil => intro ms _ _; rfl
  | cons s l ih =>
    intro ms hd hw
    have hn : s ∉ ms := fun hm => (List.nodup_append.1 hd).2.2 s hm s (by simp) rfl
    rw [chkB, if_pos (metE_ok (hw s (by simp)) hn)]
    exact ih _ (by simpa using hd) (fun t ht => hw t (by simp [ht]))
theorem chkC_ok (nb : Int) (l : List Cn) : ∀ ms : List ByteArray, (ms ++ l.map Cn.name).Nodup → (∀ c ∈ l, wordB c.name = true ∧ rightB nb c.ty = true) → chkC nb ms l = 0 := by
  induction l with
  | nil => intro ms _ _; rfl
  | cons c l ih =>
    intro ms hd hw
    have hn : c.name ∉ ms := fun hm => (List.nodup_append.1 hd).2.2 c.name hm c.name (by simp) rfl
    rw [chkC, if_pos (metE_ok (hw c (by simp)).1 hn), if_pos (hw c (by simp)).2]
    exact ih _ (by simpa using hd) (fun t ht => hw t (by simp [ht]))

/-- The bases, and the constants, of the law's tables. -/
def manyB (n : Nat) : List ByteArray := (List.range n).map wordOf
def manyC (n m : Nat) : List Cn := (List.range m).map fun i => ⟨wordOf (n + i), tA⟩
theorem many_names (n m : Nat) : manyB n ++ (manyC n m).map Cn.name = (List.range (n + m)).map wordOf := by
  unfold manyB manyC
  rw [List.range_add, List.map_append, List.map_map, List.map_map]
  rfl
theorem many_nodup (k : Nat) (hk : k ≤ 1010) : ((List.range k).map wordOf).Nodup := by
  rw [List.nodup_iff_pairwise_ne, List.pairwise_map]
  refine List.Pairwise.imp_of_mem ?_ (List.nodup_iff_pairwise_ne.1 List.nodup_range)
  intro a b ha hb hne e
  rw [List.mem_range] at ha hb
  exact hne (wordOf_inj (by omega) (by omega) e)
theorem right1 : rightB 1 tA = true := by decide +kernel
theorem right2 : rightB 2 tA = true := by decide +kernel
theorem right0 : rightB 0 tA = false := by decide +kernel
theorem chk_many (n m : Nat) (hn : n < 3) (hm : n + m ≤ 1005) (hm0 : 0 < m) : chk (manyB n) (manyC n m) = if 1000 < n + m then 2 else if n = 0 then 5 else 0 := by
  have hlB : (manyB n).length = n := by simp [manyB]
  have hlC : (manyC n m).length = m := by simp [manyC]
  unfold chk
  rw [hlB, hlC]
  by_cases hb : 1000 < n + m
  · rw [if_pos hb, if_pos hb]
  · rw [if_neg hb, if_neg hb]
    have hnd := many_nodup (n + m) (by omega)
    rw [← many_names] at hnd
    have hB : chkB [] (manyB n) = 0 := chkB_ok _ [] (by simpa using (List.nodup_append.1 hnd).1) (fun s hs => by
      obtain ⟨i, hi, rfl⟩ := List.mem_map.1 hs
      rw [List.mem_range] at hi
      exact wordOf_all ⟨i, by omega⟩)
    rw [if_pos hB]
    by_cases h0 : n = 0
    · subst h0
      rw [if_pos rfl]
      obtain ⟨k, rfl⟩ : ∃ k, m = k + 1 := ⟨m - 1, by omega⟩
      have e : manyC 0 (k + 1) = ⟨wordOf 0, tA⟩ :: (List.range k).map (fun i => ⟨wordOf (0 + (i + 1)), tA⟩) := by
        unfold manyC
        rw [List.range_succ_eq_map, List.map_cons, List.map_map]
        rfl
      rw [e, chkC, if_pos (metE_ok (wordOf_all ⟨0, by omega⟩) (by simp [manyB])), if_neg (by rw [show ((0 : Nat) : Int) = 0 from rfl, right0]; simp)]
    · rw [if_neg h0]
      refine chkC_ok _ _ _ hnd (fun c hc => ?_)
      obtain ⟨i, hi, rfl⟩ := List.mem_map.1 hc
      rw [List.mem_range] at hi
      refine ⟨wordOf_all ⟨n + i, by omega⟩, ?_⟩
      obtain rfl | rfl : n = 1 ∨ n = 2 := by omega
      · exact right1
      · exact right2

end Go.Proofs.YtdihplmlbfggjaaDoor

/-
  The law of tables of many names.
-/
namespace Go.Proofs.YtdihplmlbfggjaaDoor
open Go Go.RowKit Go.Maps

theorem cell_one_new (w : World) (x : Value) (t : TypeId) : ∀ j u, [x][j]? = some u → (w.alloc (.cells #[x] t)).cell? ((⟨w.heap.size, 0, none⟩ : Addr).add j) = some u := by
  intro j u h
  have hb := Blk.new w t #[x]
  have e : ((⟨w.heap.size, 0, none⟩ : Addr).add j) = ⟨w.heap.size, j, none⟩ := by simp [Addr.add]; omega
  rw [e, hb.cell j]
  simpa using h
theorem MkC.drew' {w : World} {M : Nat} {v : Value} {ps : List (Value × Cn)} (h : MkC w M v ps) : MkC w.drew M v ps := h.keep fun _ _ _ => rfl
theorem MkC.alloc' {w : World} {M : Nat} {v : Value} {ps : List (Value × Cn)} (h : MkC w M v ps) (o : Obj) : MkC (w.alloc o) M v ps := h.bel ((Below.refl _ _).alloc (Nat.le_refl _) o)
theorem cell_three_new' (w : World) (x y z : Value) (t : TypeId) : ∀ j u, [x, y, z][j]? = some u → (w.alloc (.cells #[x, y, z] t)).cell? ((⟨w.heap.size, 0, none⟩ : Addr).add j) = some u := by
  intro j u h
  have hb := Blk.new w t #[x, y, z]
  have e : ((⟨w.heap.size, 0, none⟩ : Addr).add j) = ⟨w.heap.size, j, none⟩ := by simp [Addr.add]; omega
  rw [e, hb.cell j]
  simpa using h
theorem manyB_step (k : Nat) : strs (manyB (k + 1)) = strs (manyB k) ++ [.string (wordOf k)] := by
  unfold manyB; rw [List.range_succ, List.map_append, strs_append]; rfl
theorem manyC_step (n k : Nat) : manyC n (k + 1) = manyC n k ++ [⟨wordOf (n + k), tA⟩] := by
  unfold manyC; rw [List.range_succ, List.map_append]; rfl
theorem rem_letter (n : Int) (p : Nat) (hp : 0 < p) (hs : p ≤ 100) : ∃ a : Nat, a < p ∧ wrap64 ((IntKind.u64.wrap n).tmod p) = (a : Int) := by
  have h0 : 0 ≤ IntKind.u64.wrap n := by
    rw [show IntKind.u64.wrap n = n % 18446744073709551616 from rfl]; omega
  have h1 : (IntKind.u64.wrap n).tmod p = IntKind.u64.wrap n % (p : Int) := Int.tmod_eq_emod_of_nonneg h0
  have h2 := Int.emod_nonneg (IntKind.u64.wrap n) (show (p : Int) ≠ 0 by omega)
  have h3 := Int.emod_lt_of_pos (IntKind.u64.wrap n) (show (0 : Int) < p by omega)
  refine ⟨(IntKind.u64.wrap n % (p : Int)).toNat, by omega, ?_⟩
  rw [h1]
  generalize IntKind.u64.wrap n % (p : Int) = y at *
  rw [Int.toNat_of_nonneg h2]
  unfold wrap64
  omega

def actL7 (N k : Nat) (y0 y1 y2 y3 y4 y7 y8 y9 y10 y11 y12 y13 y14 y15 y16 y17 y18 y19 y20 y21 y22 y23 y24 y25 y33 y34 y35 y36 y37 y38 y39 y40 y41 y42 y43 y44 y45 y46 y47 y48 y49 y50 y51 y52 y53 y54 y55 y56 y57 y58 y59 y60 y61 y62 y63 y64 y65 y66 y67 y68 y69 y70 y71 y72 : Value) (u : Nat → Value) : Act :=
  { tmps := #[y0, y1, y2, y3, y4, .pointer (some ⟨N, 0, none⟩), .int .i64 k, y7, y8, y9, y10, y11, y12, y13, y14, y15, y16, y17, y18, y19, y20, y21, y22, y23, y24, y25, u 26, u 27, u 28, u 29, u 30, u 31, u 32, y33, y34, y35, y36, y37, y38, y39, y40, y41, y42, y43, y44, y45, y46, y47, y48, y49, y50, y51, y52, y53, y54, y55, y56, y57, y58, y59, y60, y61, y62, y63, y64, y65, y66, y67, y68, y69, y70, y71, y72], defers := [] }
theorem over_actL7 (N k : Nat) (y0 y1 y2 y3 y4 y7 y8 y9 y10 y11 y12 y13 y14 y15 y16 y17 y18 y19 y20 y21 y22 y23 y24 y25 y33 y34 y35 y36 y37 y38 y39 y40 y41 y42 y43 y44 y45 y46 y47 y48 y49 y50 y51 y52 y53 y54 y55 y56 y57 y58 y59 y60 y61 y62 y63 y64 y65 y66 y67 y68 y69 y70 y71 y72 : Value) (u0 u : Nat → Value) : over (fun s => Nat.ble 26 s && Nat.ble s 32) u (actL7 N k y0 y1 y2 y3 y4 y7 y8 y9 y10 y11 y12 y13 y14 y15 y16 y17 y18 y19 y20 y21 y22 y23 y24 y25 y33 y34 y35 y36 y37 y38 y39 y40 y41 y42 y43 y44 y45 y46 y47 y48 y49 y50 y51 y52 y53 y54 y55 y56 y57 y58 y59 y60 y61 y62 y63 y64 y65 y66 y67 y68 y69 y70 y71 y72 u0) = actL7 N k y0 y1 y2 y3 y4 y7 y8 y9 y10 y11 y12 y13 y14 y15 y16 y17 y18 y19 y20 y21 y22 y23 y24 y25 y33 y34 y35 y36 y37 y38 y39 y40 y41 y42 y43 y44 y45 y46 y47 y48 y49 y50 y51 y52 y53 y54 y55 y56 y57 y58 y59 y60 y61 y62 y63 y64 y65 y66 y67 y68 y69 y70 y71 y72 u := rfl
def VL7 (N M k : Nat) (vk : Value) (xs : List Value) (p s : Nat) (w : World) (v : Value) : Prop := match s with
  | 26 => v = .pointer (some ⟨N, 0, none⟩)
  | 27 => v = vk
  | 28 => v = .int .i64 k
  | 29 => v = .string (wordOf k)
  | 30 => p = 0 → ∃ g, v = .slice (some ⟨g, 0, none⟩) 1 1 ∧ Blk w g 9 #[.string (wordOf k)]
  | 31 => 1 ≤ p ∧ (∃ g cap, v = .slice (some ⟨g, 0, none⟩) (k + 1) cap) ∧ w.ownsRow M 9 1 (v) (k + 1) (xs ++ [.string (wordOf k)])
  | 32 => v = .pointer (some ⟨N, 0, none⟩)
  | _ => True
theorem VL7.mono {N M k : Nat} {vk : Value} {xs : List Value} {p s : Nat} {w w' : World} {v : Value} (h : VL7 N M k vk xs p s w v) (hb : Below w.heap.size w w') : VL7 N M k vk xs p s w' v := by
  revert h
  unfold VL7
  split <;> intro h
  · exact h
  · exact h
  · exact h
  · exact h
  · exact fun e0 => by obtain ⟨g, e1, e2⟩ := h e0; exact ⟨g, e1, e2.below hb e2.lt⟩
  · exact ⟨h.1, h.2.1, row_below (h.2.2) hb⟩
  · exact h
  · trivial
def CL7 (W : World) (N M k : Nat) (vk : Value) (xs : List Value) (p : Nat) (w : World) : Prop :=
  (p = 0 → Below W.heap.size W w) ∧ (p = 1 → W.grownBy w (vk).ownBlock) ∧ (p = 2 → ∃ v', Blk w N 28 #[v', .slice none 0 0] ∧ (w.ownsRow M 9 1 (v') (k + 1) (xs ++ [.string (wordOf k)])) ∧ (∃ w1, W.grownBy w1 (vk).ownBlock ∧ Only [N] w1 w))
theorem CL7.mono {W : World} {N M k : Nat} {vk : Value} {xs : List Value} {p : Nat} {w w' : World} (h : CL7 W N M k vk xs p w) (hb : Below w.heap.size w w') : CL7 W N M k vk xs p w' :=
  ⟨fun e => (h.1 e).trans (hb.mono (h.1 e).size), fun e => grownBy_bel (h.2.1 e) hb, fun e => by
    obtain ⟨v', h1, h2, w1, h3, h4⟩ := h.2.2 e
    exact ⟨v', h1.below hb h1.lt, row_below (h2) hb, w1, h3, h4.trans (Only.of_below' hb)⟩⟩
def actL11 (N k j : Nat) (y1 y2 y3 y4 y6 y8 y9 y10 y11 y12 y13 y14 y15 y16 y17 y18 y19 y20 y21 y22 y23 y24 y25 y26 y27 y28 y29 y30 y31 y32 y33 y34 y35 y36 y37 y48 y49 y50 y51 y52 y53 y54 y55 y56 y57 y58 y59 y60 y61 y62 y63 y64 y65 y66 y67 y68 y69 y70 y71 y72 : Value) (u : Nat → Value) : Act :=
  { tmps := #[.int .i64 k, y1, y2, y3, y4, .pointer (some ⟨N, 0, none⟩), y6, .int .i64 j, y8, y9, y10, y11, y12, y13, y14, y15, y16, y17, y18, y19, y20, y21, y22, y23, y24, y25, y26, y27, y28, y29, y30, y31, y32, y33, y34, y35, y36, y37, u 38, u 39, u 40, u 41, u 42, u 43, u 44, u 45, u 46, u 47, y48, y49, y50, y51, y52, y53, y54, y55, y56, y57, y58, y59, y60, y61, y62, y63, y64, y65, y66, y67, y68, y69, y70, y71, y72], defers := [] }
theorem over_actL11 (N k j : Nat) (y1 y2 y3 y4 y6 y8 y9 y10 y11 y12 y13 y14 y15 y16 y17 y18 y19 y20 y21 y22 y23 y24 y25 y26 y27 y28 y29 y30 y31 y32 y33 y34 y35 y36 y37 y48 y49 y50 y51 y52 y53 y54 y55 y56 y57 y58 y59 y60 y61 y62 y63 y64 y65 y66 y67 y68 y69 y70 y71 y72 : Value) (u0 u : Nat → Value) : over (fun s => Nat.ble 38 s && Nat.ble s 47) u (actL11 N k j y1 y2 y3 y4 y6 y8 y9 y10 y11 y12 y13 y14 y15 y16 y17 y18 y19 y20 y21 y22 y23 y24 y25 y26 y27 y28 y29 y30 y31 y32 y33 y34 y35 y36 y37 y48 y49 y50 y51 y52 y53 y54 y55 y56 y57 y58 y59 y60 y61 y62 y63 y64 y65 y66 y67 y68 y69 y70 y71 y72 u0) = actL11 N k j y1 y2 y3 y4 y6 y8 y9 y10 y11 y12 y13 y14 y15 y16 y17 y18 y19 y20 y21 y22 y23 y24 y25 y26 y27 y28 y29 y30 y31 y32 y33 y34 y35 y36 y37 y48 y49 y50 y51 y52 y53 y54 y55 y56 y57 y58 y59 y60 y61 y62 y63 y64 y65 y66 y67 y68 y69 y70 y71 y72 u := rfl
def VL11 (N M k j : Nat) (vj : Value) (cs : List Cn) (p s : Nat) (w : World) (v : Value) : Prop := match s with
  | 38 => v = .pointer (some ⟨N, 1, none⟩)
  | 39 => v = vj
  | 40 => v = .int .i64 k
  | 41 => v = .int .i64 j
  | 42 => v = .int .i64 ((k : Int) + (j : Int))
  | 43 => v = .string (wordOf (k + j))
  | 44 => v = .agg #[.string (wordOf (k + j)), .slice none 0 0, .int .i64 0]
  | 45 => p = 0 → ∃ g, v = .slice (some ⟨g, 0, none⟩) 1 1 ∧ Blk w g 47 #[.string (wordOf (k + j)), .slice none 0 0, .int .i64 0]
  | 46 => 1 ≤ p ∧ (∃ g cap, v = .slice (some ⟨g, 0, none⟩) (j + 1) cap) ∧ ∃ ps, MkC w M (v) ps ∧ ps.length = j + 1 ∧ ps.map (·.2) = cs ++ [⟨wordOf (k + j), tA⟩]
  | 47 => v = .pointer (some ⟨N, 1, none⟩)
  | _ => True
theorem VL11.mono {N M k j : Nat} {vj : Value} {cs : List Cn} {p s : Nat} {w w' : World} {v : Value} (h : VL11 N M k j vj cs p s w v) (hb : Below w.heap.size w w') : VL11 N M k j vj cs p s w' v := by
  revert h
  unfold VL11
  split <;> intro h
  · exact h
  · exact h
  · exact h
  · exact h
  · exact h
  · exact h
  · exact h
  · exact fun e0 => by obtain ⟨g, e1, e2⟩ := h e0; exact ⟨g, e1, e2.below hb e2.lt⟩
  · exact ⟨h.1, h.2.1, (by obtain ⟨ps, h8, h9⟩ := h.2.2; exact ⟨ps, h8.bel hb, h9⟩)⟩
  · exact h
  · trivial
def CL11 (W : World) (N M k j : Nat) (vk vj : Value) (cs : List Cn) (p : Nat) (w : World) : Prop :=
  (p = 0 → Below W.heap.size W w) ∧ (p = 1 → W.grownBy w (vj).ownBlock) ∧ (p = 2 → ∃ v', Blk w N 28 #[vk, v'] ∧ (∃ ps, MkC w M (v') ps ∧ ps.length = j + 1 ∧ ps.map (·.2) = cs ++ [⟨wordOf (k + j), tA⟩]) ∧ (∃ w1, W.grownBy w1 (vj).ownBlock ∧ Only [N] w1 w))
theorem CL11.mono {W : World} {N M k j : Nat} {vk vj : Value} {cs : List Cn} {p : Nat} {w w' : World} (h : CL11 W N M k j vk vj cs p w) (hb : Below w.heap.size w w') : CL11 W N M k j vk vj cs p w' :=
  ⟨fun e => (h.1 e).trans (hb.mono (h.1 e).size), fun e => grownBy_bel (h.2.1 e) hb, fun e => by
    obtain ⟨v', h1, h2, w1, h3, h4⟩ := h.2.2 e
    exact ⟨v', h1.below hb h1.lt, (by obtain ⟨ps, h8, h9⟩ := h2; exact ⟨ps, h8.bel hb, h9⟩), w1, h3, h4.trans (Only.of_below' hb)⟩⟩
set_option maxRecDepth 100000 in
set_option maxHeartbeats 3200000 in
theorem Long_calls (n m : Int) (w : World) : Calls Tryd.prog 4 #[.int .i64 n, .int .i64 m] w fun e w' => e = .returned (.bool true) ∧ Below w.heap.size w w' := by
  obtain ⟨i9, hi9, hz90, hz91, hz92⟩ := info_parts info9
  obtain ⟨i47, hi47, hz470, hz471, hz472⟩ := info_parts info47
  obtain ⟨a, ha, hea⟩ := rem_letter n 3 (by omega) (by omega)
  obtain ⟨c, hc, hec⟩ := rem_letter m 5 (by omega) (by omega)
  obtain ⟨b, hb⟩ : ∃ b : Nat, a + b = 998 + c := ⟨998 - a + c, by omega⟩
  have hes : wrap64 (998 - (a : Int)) = 998 - (a : Int) := by unfold wrap64; omega
  have heb : wrap64 (998 - (a : Int) + (c : Int)) = (b : Int) := by unfold wrap64; omega
  have heb' : 998 - (a : Int) + (c : Int) = (b : Int) := by omega
  have HCK : Hid _ := chk_many a b ha (by omega) (by omega)
  obtain ⟨N, hN⟩ : ∃ N, w.heap.size = N := ⟨_, rfl⟩
  rw [hN]
  go_enter Tryd.func4, Tryd.ntmps4
  go_wp2_with fail
  rw [show wrap64 ((IntKind.u64.wrap n).tmod 3) = (a : Int) from hea, show wrap64 ((IntKind.u64.wrap m).tmod 5) = (c : Int) from hec, hes, heb]
  clear hea hec hes heb heb'
  obtain ⟨M, hM⟩ : ∃ M, N + 1 = M := ⟨_, rfl⟩
  go_loopw [6] (fun i wr => ∃ (k : Nat) (vk : Value), k ≤ a ∧ i = .int .i64 k ∧ Blk wr N 28 #[vk, .slice none 0 0] ∧ wr.ownsRow M 9 1 vk k (strs (manyB k)) ∧ Below N w wr) (fun i _ => a - (intOf i).toNat)
  case atStart => exact ⟨0, _, Nat.zero_le _, rfl, Blk.new' w N 28 _ hN, World.ownsRow_nil _ _ _ _, (Below.refl N w).alloc (by omega) _⟩
  case round =>
    clear hN
    obtain ⟨k, vk, hk, rfl, hb0, hrow, hbl⟩ := hrel
    have t0 := hb0.cell 0
    have hRw : N < wr.heap.size := hb0.lt
    by_cases hlt : k < a
    · have z1 : decide ((k : Int) < (a : Int)) = true := by simp; omega
      have HS : Hid _ := manyB_step k
      have hMw : M ≤ wr.heap.size := by omega
      have hnR : vk.ownBlock ≠ some N := fun e => by have := (hrow.lt N e).1; omega
      have hword := word_calls k (by omega)
      generalize strs (manyB k) = xs at *
      go_wp2_with fail
      rename_i K Q' hKs
      refine (wpIn_wide (n := 9)).1 ?_
      show Code.wpIn Fence.wide 9 Tryd.prog (Code.region 7 _ true) _ (actL7 N k (Value.int IntKind.i64 ↑a) (Value.int IntKind.i64 ↑b) (undef) (undef) (Value.bool false) (undef) (undef) (Value.int IntKind.i64 n) (Value.int IntKind.u64 (IntKind.u64.wrap n)) (Value.int IntKind.u64 ((IntKind.u64.wrap n).tmod 3)) (Value.int IntKind.i64 ↑a) (Value.int IntKind.i64 ↑a) (Value.int IntKind.i64 (998 - ↑a)) (Value.int IntKind.i64 m) (Value.int IntKind.u64 (IntKind.u64.wrap m)) (Value.int IntKind.u64 ((IntKind.u64.wrap m).tmod 5)) (Value.int IntKind.i64 ↑c) (Value.int IntKind.i64 ↑b) (Value.agg #[Value.slice none 0 0, Value.slice none 0 0]) (Value.int IntKind.i64 ↑k) (Value.int IntKind.i64 ↑a) (Value.bool true) (u24) (u25) (undef) (undef) (undef) (undef) (undef) (undef) (undef) (undef) (undef) (undef) (undef) (undef) (undef) (undef) (undef) (undef) (undef) (undef) (undef) (undef) (undef) (undef) (undef) (undef) (undef) (undef) (undef) (undef) (undef) (undef) (undef) (undef) (undef) (undef) (undef) (undef) (undef) (undef) (undef) (undef) (fun | 26 => u26 | 27 => u27 | 28 => u28 | 29 => u29 | 30 => u30 | 31 => u31 | 32 => u32 | _ => undef)) wr
      refine region_spine [(0, 0), (1, 0), (2, 0), (3, 0), (4, 0), (6, 1)] [5, 7] (fun s => Nat.ble 26 s && Nat.ble s 32) (VL7 N M k vk xs) (CL7 wr N M k vk xs) (by kernel_rfl) (by kernel_rfl) (by kernel_rfl) (by kernel_rfl) (fun _ _ _ _ _ h hb => h.mono hb) (fun _ _ _ h hb => h.mono hb) ⟨fun _ => (Below.refl _ _).drew, (fun e => by cases e), (fun e => by cases e)⟩ ⟨?_, ?_, ?_, ?_, ?_, ?_, trivial⟩ ⟨?_, ?_, trivial⟩ ?_
      · intro o ho p hp _ z w hC hk K' hK
        cases ho
        obtain rfl : p = 0 := by omega
        have hB := hC.1 rfl
        have hK3 := hK (.pointer (some ⟨N, 0, none⟩)) w (fun s hs => by cases hs; exact rfl) (Below.refl _ _)
        simp only [over_actL7] at hK3 ⊢
        clear hK hk
        unfold actL7 at *
        refine want_plain rfl ?_
        go_simp
        exact hK3
      · intro o ho p hp _ z w hC hk K' hK
        cases ho
        obtain rfl : p = 0 := by omega
        have hB := hC.1 rfl
        have e26 : z 26 = .pointer (some ⟨N, 0, none⟩) := hk 26 (by decide +kernel) rfl
        have g0 := (cat hB hb0.lt).trans (hb0.cell 0)
        have hK3 := hK (vk) w (fun s hs => by cases hs; exact rfl) (Below.refl _ _)
        simp only [over_actL7] at hK3 ⊢
        clear hK hk
        unfold actL7 at *
        simp only [e26] at hK3 ⊢
        refine want_plain rfl ?_
        go_simp
        exact hK3
      · intro o ho p hp _ z w hC hk K' hK
        cases ho
        obtain rfl : p = 0 := by omega
        have hB := hC.1 rfl
        have hK3 := hK (.int .i64 k) w (fun s hs => by cases hs; exact rfl) (Below.refl _ _)
        simp only [over_actL7] at hK3 ⊢
        clear hK hk
        unfold actL7 at *
        refine want_plain rfl ?_
        go_simp
        exact hK3
      · intro o ho p hp _ z w hC hk K' hK
        cases ho
        obtain rfl : p = 0 := by omega
        have hB := hC.1 rfl
        have e28 : z 28 = .int .i64 k := hk 28 (by decide +kernel) rfl
        have hcall := hword w
        have hK3 := fun (w2 : World) (hb2 : Below w.heap.size w w2) => hK (.string (wordOf k)) w2 (fun s hs => by cases hs; exact rfl) hb2
        simp only [over_actL7] at hK3 ⊢
        clear hK hk
        unfold actL7 at *
        simp only [e28] at hK3 ⊢
        refine want_plain rfl ?_
        go_simp
        refine ⟨trivial, (callsIn_wide.2 hcall).mono ?_⟩
        rintro e w2 ⟨rfl, hb2⟩
        exact hK3 w2 hb2
      · intro o ho p hp _ z w hC hk K' hK
        cases ho
        obtain rfl : p = 0 := by omega
        have hB := hC.1 rfl
        have e29 : z 29 = .string (wordOf k) := hk 29 (by decide +kernel) rfl
        have hK3 := hK (.slice (some ⟨w.heap.size, 0, none⟩) 1 1) (w.alloc (.cells #[.string (wordOf k)] 9)) (fun s hs => by cases hs; exact fun _ => ⟨w.heap.size, rfl, Blk.new w 9 _⟩) ((Below.refl _ _).alloc (Nat.le_refl _) _)
        simp only [over_actL7] at hK3 ⊢
        clear hK hk
        unfold actL7 at *
        simp only [e29] at hK3 ⊢
        refine want_plain rfl ?_
        go_simp
        exact hK3
      · intro o ho p hp _ z w hC hk K' hK
        cases ho
        have hK3 := hK (.pointer (some ⟨N, 0, none⟩)) w (fun s hs => by cases hs; exact rfl) (Below.refl _ _)
        simp only [over_actL7] at hK3 ⊢
        clear hK hk
        unfold actL7 at *
        refine want_plain rfl ?_
        go_simp
        exact hK3
      · intro o ho z w hC hk K' hK
        cases ho
        have hB := hC.1 rfl
        have eS : z 27 = vk := hk 27 (by decide +kernel) rfl
        obtain ⟨g9, eA, bA⟩ := hk 30 (by decide +kernel) rfl rfl
        have hrw := row_below hrow hB
        simp only [over_actL7] at hK ⊢
        refine want_plain rfl (append_in rfl (.tmp 27) (.tmp 30) 22 rfl M 9 i9 (.string ⟨#[]⟩) 1 16 Tryd.underlying22 hi9 hz90 hz91 hz92 rfl (by decide) vk k xs eS hrw ⟨g9, 0, none⟩ 1 1 [.string (wordOf k)] eA rfl ?_ (by simp [Value.oneCell']) (by omega) (by unfold maxLen; omega) (by omega) (by have := hB.size; omega) ?_)
        · intro i u hi
          have e : ((⟨g9, 0, none⟩ : Addr).add i) = ⟨g9, i, none⟩ := by simp [Addr.add]; omega
          rw [e, bA.cell i]
          simpa using hi
        · intro g cap w' hown hgrow hat hlt
          have hq := hown
          refine hK _ w' (fun i hs => by cases hs; exact ⟨by omega, ⟨g, cap, rfl⟩, hq⟩) ⟨by omega, fun _ => ?_, by omega⟩ (fun s x h => ?_)
          · exact ⟨hgrow.os.trans hB.os, hgrow.tape.trans hB.tape, hgrow.output.trans hB.output, Nat.le_trans hB.size hgrow.size, fun i hi hn => (hgrow.block i (Nat.lt_of_lt_of_le hi hB.size) hn).trans (hB.block i hi)⟩
          · revert h
            unfold VL7
            split <;> intro h
            · exact h
            · exact h
            · exact h
            · exact h
            · exact fun e0 => absurd e0 (by omega)
            · exact absurd h.1 (by omega)
            · exact h
            · trivial
      · intro o ho z w hC hk K' hK
        cases ho
        have eP : z 32 = .pointer (some ⟨N, 0, none⟩) := hk 32 (by decide +kernel) rfl
        obtain ⟨_, ⟨g9, c9, eV⟩, hq⟩ := hk 31 (by decide +kernel) rfl
        have hG := hC.2.1 rfl
        have hbR : Blk w N 28 #[vk, .slice none 0 0] := hb0.kept hG (fun e => hnR e.symm)
        have f0 := hbR.frozen 0
        have p0 := hbR.cell 0
        rw [eV] at hq
        have hK3 := hK undef (w.setCell ⟨N, 0, none⟩ (.slice (some ⟨g9, 0, none⟩) (k + 1) c9)) (fun i hs => by cases hs) ⟨by omega, by omega, fun _ => ⟨_, hbR.set 0 _, row_only (hq) ((Only.refl [N] _).set (by simp) 0 _) (fun b hb => by have := ((hq).lt b hb).1; simp; omega), w, hG, (Only.refl _ _).set (by simp) 0 _⟩⟩ (fun s x h => by
          revert h
          unfold VL7
          split <;> intro h
          · exact h
          · exact h
          · exact h
          · exact h
          · exact fun e0 => absurd e0 (by omega)
          · exact ⟨by omega, h.2.1, row_only (h.2.2) ((Only.refl [N] _).set (by simp) 0 _) (fun b hb => by have := ((h.2.2).lt b hb).1; simp; omega)⟩
          · exact h
          · trivial)
        simp only [over_actL7] at hK3 ⊢
        clear hK hk
        unfold actL7 at *
        simp only [eP, eV] at hK3 ⊢
        refine want_plain rfl ?_
        go_simp
        exact hK3
      · intro z w' hC _
        obtain ⟨v', hbR', hq', w1, hG, hO⟩ := hC.2.2 rfl
        rw [over_actL7]
        refine hKs _ _ ?_
        unfold actL7
        have hbl' : Below N w w' := (hbl.grown hG (by omega) (fun i hi => by have := (hrow.lt i hi).1; omega)).trans (hO.below (by have := hG.size; omega) (fun i hi => by simp at hi; omega))
        rw [← HS.out] at hq'
        go_wp2
        exact ⟨⟨_, _, _, _, _, _, _, _, _, _, _, _, _, ⟨k + 1, v', by omega, by go_num, hbR', hq', hbl'⟩, rfl⟩, by simp [intOf]; omega⟩
    · obtain rfl : k = a := by omega
      have z1 : decide ((k : Int) < (k : Int)) = false := by simp
      have hMw : M ≤ wr.heap.size := by omega
      clear t0
      go_wp2_with fail
      go_loopw [7] (fun i wr => ∃ (j : Nat) (vj : Value) (ps : List (Value × Cn)), j ≤ b ∧ i = .int .i64 j ∧ ps.length = j ∧ Hid (ps.map (·.2) = manyC k j) ∧ Blk wr N 28 #[vk, vj] ∧ wr.ownsRow M 9 1 vk k (strs (manyB k)) ∧ MkC wr M vj ps ∧ Below N w wr) (fun i _ => b - (intOf i).toNat)
      case atStart => exact ⟨0, _, [], Nat.zero_le _, rfl, rfl, rfl, hb0, hrow, MkC.nil _ _, hbl⟩
      case round =>
        clear hb0 hrow hbl hRw hMw
        obtain ⟨j, vj, ps, hj, rfl, hpl, HP, hb0, hrow, hmk, hbl⟩ := hrel
        have t0 := hb0.cell 1
        have hRw : N < wr.heap.size := hb0.lt
        have hMw : M ≤ wr.heap.size := by omega
        by_cases hlt : j < b
        · have HKK : Hid (ps.length = j) := hpl
          clear hpl
          have z1 : decide ((j : Int) < (b : Int)) = true := by simp; omega
          have HS : Hid _ := manyC_step k j
          have hnR : vj.ownBlock ≠ some N := fun e => by have := (hmk.lt N e).1; omega
          have HL : Hid (∀ b, vj.ownBlock = some b → b < wr.heap.size) := fun b hb => (hmk.lt b hb).2
          have hword := word_calls (k + j) (by omega)
          rw [show ((k + j : Nat) : Int) = (k : Int) + (j : Int) by omega] at hword
          have hjb : j < 1010 := by omega
          go_wp2_with fail
          rename_i K Q' hKs
          refine (wpIn_wide (n := 9)).1 ?_
          show Code.wpIn Fence.wide 9 Tryd.prog (Code.region 11 _ true) _ (actL11 N k j (Value.int IntKind.i64 ↑b) (undef) (undef) (Value.bool false) (Value.int IntKind.i64 ↑k) (undef) (Value.int IntKind.i64 n) (Value.int IntKind.u64 (IntKind.u64.wrap n)) (Value.int IntKind.u64 ((IntKind.u64.wrap n).tmod 3)) (Value.int IntKind.i64 ↑k) (Value.int IntKind.i64 ↑k) (Value.int IntKind.i64 (998 - ↑k)) (Value.int IntKind.i64 m) (Value.int IntKind.u64 (IntKind.u64.wrap m)) (Value.int IntKind.u64 ((IntKind.u64.wrap m).tmod 5)) (Value.int IntKind.i64 ↑c) (Value.int IntKind.i64 ↑b) (Value.agg #[Value.slice none 0 0, Value.slice none 0 0]) (Value.int IntKind.i64 ↑k) (Value.int IntKind.i64 ↑k) (Value.bool false) (u24) (u25) (u26) (u27) (u28) (u29) (u30) (u31) (u32) (Value.int IntKind.i64 ↑j) (Value.int IntKind.i64 ↑b) (Value.bool true) (u36) (u37) (undef) (undef) (undef) (undef) (undef) (undef) (undef) (undef) (undef) (undef) (undef) (undef) (undef) (undef) (undef) (undef) (undef) (undef) (undef) (undef) (undef) (undef) (undef) (undef) (undef) (fun | 38 => u38 | 39 => u39 | 40 => u40 | 41 => u41 | 42 => u42 | 43 => u43 | 44 => u44 | 45 => u45 | 46 => u46 | 47 => u47 | _ => undef)) wr
          refine region_spine [(0, 0), (1, 0), (2, 0), (3, 0), (4, 0), (5, 0), (6, 0), (7, 0), (9, 1)] [8, 10] (fun s => Nat.ble 38 s && Nat.ble s 47) (VL11 N M k j vj (manyC k j)) (CL11 wr N M k j vk vj (manyC k j)) (by kernel_rfl) (by kernel_rfl) (by kernel_rfl) (by kernel_rfl) (fun _ _ _ _ _ h hb => h.mono hb) (fun _ _ _ h hb => h.mono hb) ⟨fun _ => (Below.refl _ _).drew, (fun e => by cases e), (fun e => by cases e)⟩ ⟨?_, ?_, ?_, ?_, ?_, ?_, ?_, ?_, ?_, trivial⟩ ⟨?_, ?_, trivial⟩ ?_
          · intro o ho p hp _ z w hC hk K' hK
            cases ho
            obtain rfl : p = 0 := by omega
            have hB := hC.1 rfl
            have hK3 := hK (.pointer (some ⟨N, 1, none⟩)) w (fun s hs => by cases hs; exact rfl) (Below.refl _ _)
            simp only [over_actL11] at hK3 ⊢
            clear hK hk
            unfold actL11 at *
            refine want_plain rfl ?_
            go_simp
            exact hK3
          · intro o ho p hp _ z w hC hk K' hK
            cases ho
            obtain rfl : p = 0 := by omega
            have hB := hC.1 rfl
            have e38 : z 38 = .pointer (some ⟨N, 1, none⟩) := hk 38 (by decide +kernel) rfl
            have g0 := (cat hB hb0.lt).trans (hb0.cell 1)
            have hK3 := hK (vj) w (fun s hs => by cases hs; exact rfl) (Below.refl _ _)
            simp only [over_actL11] at hK3 ⊢
            clear hK hk
            unfold actL11 at *
            simp only [e38] at hK3 ⊢
            refine want_plain rfl ?_
            go_simp
            exact hK3
          · intro o ho p hp _ z w hC hk K' hK
            cases ho
            obtain rfl : p = 0 := by omega
            have hB := hC.1 rfl
            have hK3 := hK (.int .i64 k) w (fun s hs => by cases hs; exact rfl) (Below.refl _ _)
            simp only [over_actL11] at hK3 ⊢
            clear hK hk
            unfold actL11 at *
            refine want_plain rfl ?_
            go_simp
            exact hK3
          · intro o ho p hp _ z w hC hk K' hK
            cases ho
            obtain rfl : p = 0 := by omega
            have hB := hC.1 rfl
            have hK3 := hK (.int .i64 j) w (fun s hs => by cases hs; exact rfl) (Below.refl _ _)
            simp only [over_actL11] at hK3 ⊢
            clear hK hk
            unfold actL11 at *
            refine want_plain rfl ?_
            go_simp
            exact hK3
          · intro o ho p hp _ z w hC hk K' hK
            cases ho
            obtain rfl : p = 0 := by omega
            have hB := hC.1 rfl
            have e40 : z 40 = .int .i64 k := hk 40 (by decide +kernel) rfl
            have e41 : z 41 = .int .i64 j := hk 41 (by decide +kernel) rfl
            have hwk : IntKind.i64.wrap ((k : Int) + (j : Int)) = (k : Int) + (j : Int) := Lx.wrap_small (by omega) (by omega)
            have hK3 := hK (.int .i64 ((k : Int) + (j : Int))) w (fun s hs => by cases hs; exact rfl) (Below.refl _ _)
            simp only [over_actL11] at hK3 ⊢
            clear hK hk
            unfold actL11 at *
            simp only [e40, e41] at hK3 ⊢
            refine want_plain rfl ?_
            go_simp
            exact hK3
          · intro o ho p hp _ z w hC hk K' hK
            cases ho
            obtain rfl : p = 0 := by omega
            have hB := hC.1 rfl
            have e42 : z 42 = .int .i64 ((k : Int) + (j : Int)) := hk 42 (by decide +kernel) rfl
            have hcall := hword w
            have hK3 := fun (w2 : World) (hb2 : Below w.heap.size w w2) => hK (.string (wordOf (k + j))) w2 (fun s hs => by cases hs; exact rfl) hb2
            simp only [over_actL11] at hK3 ⊢
            clear hK hk
            unfold actL11 at *
            simp only [e42] at hK3 ⊢
            refine want_plain rfl ?_
            go_simp
            refine ⟨trivial, (callsIn_wide.2 hcall).mono ?_⟩
            rintro e w2 ⟨rfl, hb2⟩
            exact hK3 w2 hb2
          · intro o ho p hp _ z w hC hk K' hK
            cases ho
            obtain rfl : p = 0 := by omega
            have hB := hC.1 rfl
            have e43 : z 43 = .string (wordOf (k + j)) := hk 43 (by decide +kernel) rfl
            have hK3 := hK (.agg #[.string (wordOf (k + j)), .slice none 0 0, .int .i64 0]) w (fun s hs => by cases hs; exact rfl) (Below.refl _ _)
            simp only [over_actL11] at hK3 ⊢
            clear hK hk
            unfold actL11 at *
            simp only [e43] at hK3 ⊢
            refine want_plain rfl ?_
            go_simp
            exact hK3
          · intro o ho p hp _ z w hC hk K' hK
            cases ho
            obtain rfl : p = 0 := by omega
            have hB := hC.1 rfl
            have e44 : z 44 = .agg #[.string (wordOf (k + j)), .slice none 0 0, .int .i64 0] := hk 44 (by decide +kernel) rfl
            have hK3 := hK (.slice (some ⟨w.heap.size, 0, none⟩) 1 1) (w.alloc (.cells #[.string (wordOf (k + j)), .slice none 0 0, .int .i64 0] 47)) (fun s hs => by cases hs; exact fun _ => ⟨w.heap.size, rfl, Blk.new w 47 _⟩) ((Below.refl _ _).alloc (Nat.le_refl _) _)
            simp only [over_actL11] at hK3 ⊢
            clear hK hk
            unfold actL11 at *
            simp only [e44] at hK3 ⊢
            refine want_plain rfl ?_
            go_simp
            exact hK3
          · intro o ho p hp _ z w hC hk K' hK
            cases ho
            have hK3 := hK (.pointer (some ⟨N, 1, none⟩)) w (fun s hs => by cases hs; exact rfl) (Below.refl _ _)
            simp only [over_actL11] at hK3 ⊢
            clear hK hk
            unfold actL11 at *
            refine want_plain rfl ?_
            go_simp
            exact hK3
          · intro o ho z w hC hk K' hK
            cases ho
            have hB := hC.1 rfl
            have eS : z 39 = vj := hk 39 (by decide +kernel) rfl
            obtain ⟨g9, eA, bA⟩ := hk 45 (by decide +kernel) rfl rfl
            have hmw := hmk.bel hB
            have hrw := hmw.row
            rw [HKK.out] at hrw
            simp only [over_actL11] at hK ⊢
            refine want_plain rfl (append_in rfl (.tmp 39) (.tmp 45) 26 rfl M 47 i47 (.agg #[.string ⟨#[]⟩, .slice none 0 0, .int .i64 0]) 3 48 Tryd.underlying26 hi47 hz470 hz471 hz472 rfl (by decide) vj j (ccells ps) eS hrw ⟨g9, 0, none⟩ 1 1 [.string (wordOf (k + j)), .slice none 0 0, .int .i64 0] eA rfl ?_ (by simp [Value.oneCell']) (by omega) (by unfold maxLen; omega) (by omega) (by have := hB.size; omega) ?_)
            · intro i u hi
              have e : ((⟨g9, 0, none⟩ : Addr).add i) = ⟨g9, i, none⟩ := by simp [Addr.add]; omega
              rw [e, bA.cell i]
              simpa using hi
            · intro g cap w' hown hgrow hat hlt
              have hq := (⟨ps ++ [(.slice none 0 0, ⟨wordOf (k + j), tA⟩)], hmw.snoc (cap := cap) (L := wr.heap.size) (x := ⟨wordOf (k + j), tA⟩) (s := .slice none 0 0) HKK.out (Holds.nil _ _ _ _ (fun _ => rfl)) hMw (fun b hb => (hmk.lt b hb).2) hgrow hat hown, by rw [List.length_append, HKK.out]; rfl, by rw [List.map_append, HP.out]; rfl⟩ : ∃ qs, MkC w' M (.slice (some ⟨g, 0, none⟩) (j + 1) cap) qs ∧ qs.length = j + 1 ∧ qs.map (·.2) = manyC k j ++ [⟨wordOf (k + j), tA⟩])
              refine hK _ w' (fun i hs => by cases hs; exact ⟨by omega, ⟨g, cap, rfl⟩, hq⟩) ⟨by omega, fun _ => ?_, by omega⟩ (fun s x h => ?_)
              · exact ⟨hgrow.os.trans hB.os, hgrow.tape.trans hB.tape, hgrow.output.trans hB.output, Nat.le_trans hB.size hgrow.size, fun i hi hn => (hgrow.block i (Nat.lt_of_lt_of_le hi hB.size) hn).trans (hB.block i hi)⟩
              · revert h
                unfold VL11
                split <;> intro h
                · exact h
                · exact h
                · exact h
                · exact h
                · exact h
                · exact h
                · exact h
                · exact fun e0 => absurd e0 (by omega)
                · exact absurd h.1 (by omega)
                · exact h
                · trivial
          · intro o ho z w hC hk K' hK
            cases ho
            have eP : z 47 = .pointer (some ⟨N, 1, none⟩) := hk 47 (by decide +kernel) rfl
            obtain ⟨_, ⟨g9, c9, eV⟩, hq⟩ := hk 46 (by decide +kernel) rfl
            have hG := hC.2.1 rfl
            have hbR : Blk w N 28 #[vk, vj] := hb0.kept hG (fun e => hnR e.symm)
            have f0 := hbR.frozen 1
            have p0 := hbR.cell 1
            rw [eV] at hq
            have hK3 := hK undef (w.setCell ⟨N, 1, none⟩ (.slice (some ⟨g9, 0, none⟩) (j + 1) c9)) (fun i hs => by cases hs) ⟨by omega, by omega, fun _ => ⟨_, hbR.set 1 _, (by obtain ⟨ps, h8, h9⟩ := hq; exact ⟨ps, h8.set (by omega) 1 _, h9⟩), w, hG, (Only.refl _ _).set (by simp) 1 _⟩⟩ (fun s x h => by
              revert h
              unfold VL11
              split <;> intro h
              · exact h
              · exact h
              · exact h
              · exact h
              · exact h
              · exact h
              · exact h
              · exact fun e0 => absurd e0 (by omega)
              · exact ⟨by omega, h.2.1, (by obtain ⟨ps, h8, h9⟩ := h.2.2; exact ⟨ps, h8.set (by omega) 1 _, h9⟩)⟩
              · exact h
              · trivial)
            simp only [over_actL11] at hK3 ⊢
            clear hK hk
            unfold actL11 at *
            simp only [eP, eV] at hK3 ⊢
            refine want_plain rfl ?_
            go_simp
            exact hK3
          · intro z w' hC _
            obtain ⟨v', hbR', hq', w1, hG, hO⟩ := hC.2.2 rfl
            rw [over_actL11]
            refine hKs _ _ ?_
            unfold actL11
            have hrow' := row_only (hrow.kept hG (rows_ne hrow hmk.row (by decide))) hO (fun b hb => by have := (hrow.lt b hb).1; simp; omega)
            have hbl' : Below N w w' := (hbl.grown hG (by omega) (fun i hi => by have := (hmk.lt i hi).1; omega)).trans (hO.below (by have := hG.size; omega) (fun i hi => by simp at hi; omega))
            obtain ⟨qs, hm', hl', hp'⟩ := hq'
            rw [← HS.out] at hp'
            go_wp2
            exact ⟨⟨_, _, _, _, _, _, _, _, _, _, _, _, _, _, _, _, ⟨j + 1, v', qs, by omega, by go_num, hl', hp', hbR', hrow', hm', hbl'⟩, rfl⟩, by simp [intOf]; omega⟩
        · obtain rfl : j = b := by omega
          have z1 : decide ((j : Int) < (j : Int)) = false := by simp
          have hlB : (manyB k).length = k := by simp [manyB]
          have hlC : (manyC k j).length = j := by simp [manyC]
          have hS : HoldsS wr (fun b => M ≤ b) (manyB k) vk := holdsS_row (by rw [hlB]; exact hrow)
          have hC := hmk.holds
          rw [HP.out] at hC
          have hCk := Check_calls (manyB k) (manyC k j) (fun b => M ≤ b) vk vj wr hS hC (fun s hs => by
            obtain ⟨i, _, rfl⟩ := List.mem_map.1 hs
            exact Nat.le_trans (show (wordOf i).size ≤ 4 from Nat.le_refl _) (by omega)) (fun x hx => by
            obtain ⟨i, _, rfl⟩ := List.mem_map.1 hx
            exact ⟨Nat.le_trans (show (wordOf (k + i)).size ≤ 4 from Nat.le_refl _) (by omega), (show tA.size ≤ 900000 by decide +kernel)⟩) (by rw [hlB, hlC]; omega)
          rw [HCK.out] at hCk
          have t1 := hb0.cell 0
          obtain ⟨sa, sc, rfl, _⟩ := hS.shape
          obtain ⟨ya, yc, rfl, _⟩ := hC.shape
          have lw := hbl.size
          rw [hlB, hlC] at *
          clear hS hC hmk hrow HP hpl
          have hkn := fun w => known_calls w
          go_wp2_with fail
          refine hCk.mono ?_
          rintro e w3 ⟨rfl, hb3⟩
          have B3 : Below N w w3 := hbl.trans (hb3.mono (by omega))
          have hka := hkn w3
          have l3 : N ≤ w3.heap.size := by have := hb3.size; omega
          clear hCk hb3 t0 t1 hb0
          by_cases h1 : 1000 < k + j
          · have z5 : decide ((1000 : Int) < (k : Int) + (j : Int)) = true := by simp; omega
            rw [if_pos h1]
            go_wp2_with fail
            refine hka.mono ?_
            rintro e w4 ⟨rfl, hb4⟩
            have B4 : Below N w w4 := B3.trans (hb4.mono l3)
            go_wp2
            go_ret
            exact ⟨rfl, B4⟩
          · have z5 : decide ((1000 : Int) < (k : Int) + (j : Int)) = false := by simp; omega
            rw [if_neg h1]
            by_cases h2 : k = 0
            · subst h2
              rw [if_pos rfl]
              go_wp2_with fail
              refine hka.mono ?_
              rintro e w4 ⟨rfl, hb4⟩
              have B4 : Below N w w4 := B3.trans (hb4.mono l3)
              go_wp2
              go_ret
              exact ⟨rfl, B4⟩
            · rw [if_neg h2]
              have z6 : ((k : Int) == 0) = false := by simp; omega
              go_wp2_with fail
              refine hka.mono ?_
              rintro e w4 ⟨rfl, hb4⟩
              have B4 : Below N w w4 := B3.trans (hb4.mono l3)
              go_wp2
              go_ret
              exact ⟨rfl, B4⟩

end Go.Proofs.YtdihplmlbfggjaaDoor

