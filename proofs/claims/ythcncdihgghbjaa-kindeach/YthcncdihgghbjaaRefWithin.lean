/-
  The contract of the document's Within: a type and all types within, each ahead of its arguments', and beside them their depths.
-/
import Derived.Test.YthcncdihgghbjaaSizes
import Derived.Test.YthcncdihgghbjaaFresh
namespace Go.Proofs.Ythcncdihgghbjaa
open Go Go.RowKit Go.Shelf

theorem row_bel {w w' : World} {M : Nat} {e : TypeId} {sz : Nat} {v : Value} {n : Nat} {xs : List Value} (h : w.ownsRow M e sz v n xs) (hb : Below w.heap.size w w') : w'.ownsRow M e sz v n xs := by
  refine ⟨h.1, ?_⟩
  rcases h.2 with h2 | ⟨g, cap, cur, e1, e2, e3, e4⟩
  · exact .inl h2
  · refine .inr ⟨g, cap, cur, e1, e2, ?_, e4⟩
    have hlt : g < w.heap.size := (Array.getElem?_eq_some_iff.1 e3).1
    rw [hb.block g hlt]
    exact e3
theorem row_mono {w : World} {M M' : Nat} {e : TypeId} {sz : Nat} {v : Value} {n : Nat} {xs : List Value} (h : w.ownsRow M e sz v n xs) (hM : M' ≤ M) : w.ownsRow M' e sz v n xs := by
  refine ⟨h.1, ?_⟩
  rcases h.2 with h2 | ⟨g, cap, cur, e1, e2, e3⟩
  · exact .inl h2
  · exact .inr ⟨g, cap, cur, e1, Nat.le_trans hM e2, e3⟩
theorem rows_ne {w : World} {M M' : Nat} {e e' : TypeId} {sz sz' : Nat} {v v' : Value} {n n' : Nat} {xs xs' : List Value} (h : w.ownsRow M e sz v n xs) (h' : w.ownsRow M' e' sz' v' n' xs') (hne : e ≠ e') (hn : 0 < n) : v.ownBlock ≠ v'.ownBlock := by
  intro he
  rcases h.2 with ⟨_, h2⟩ | ⟨g, cap, cur, rfl, _, e3, _⟩
  · omega
  · rcases h'.2 with ⟨rfl, _⟩ | ⟨g', cap', cur', rfl, _, e3', _⟩
    · cases he
    · obtain rfl : g = g' := by simpa [Value.ownBlock] using he
      rw [e3] at e3'
      simp at e3'
      exact hne e3'.2
def deps (l : List (Nat × Ty)) : List Int := l.map fun p => (p.1 : Int)
theorem deps_append (a b : List (Nat × Ty)) : deps (a ++ b) = deps a ++ deps b := List.map_append
theorem one_cells (l : List (Value × Ty)) (h : ∀ p ∈ l, p.1.oneCell' = true) : ∀ u ∈ pcells l, u.oneCell' = true := by
  induction l with
  | nil => simp [pcells]
  | cons p l ih =>
    intro u hu
    simp only [pcells, List.mem_cons] at hu
    rcases hu with rfl | rfl | hu
    · exact h p (by simp)
    · simp [Value.oneCell']
    · exact ih (fun q hq => h q (by simp [hq])) u hu
theorem one_ints (l : List Int) : ∀ u ∈ ints l, u.oneCell' = true := by
  intro u hu
  obtain ⟨x, _, rfl⟩ := List.mem_map.1 hu
  simp [Value.oneCell']

/-- What Within hands back. -/
structure WIn (w0 : World) (n0 M : Nat) (t : Ty) (d : Nat) (w' : World) (vk vd : Value) (ps : List (Value × Ty)) : Prop where
  ty : ps.map (·.2) = (t.within d).map (·.2)
  kid : ∀ p ∈ ps, Holds w0 (fun b => b < n0) p.2.args p.1
  rk : w'.ownsRow M 24 2 vk ps.length (pcells ps)
  rd : w'.ownsRow M 3 1 vd ps.length (ints (deps (t.within d)))

set_option maxRecDepth 100000 in
set_option maxHeartbeats 3200000 in
theorem refWithin_calls (w0 : World) (n0 : Nat) (t : Ty) : ∀ (d : Nat) (sl : Value) (w : World), Holds w0 (fun b => b < n0) t.args sl → n0 ≤ w.heap.size → Below n0 w0 w → t.size ≤ 100000 → d + t.depth ≤ 100000 →
    Calls Try.prog 32 #[tv sl t.base, .int .i64 (d : Int)] w fun e w' => ∃ vk vd ps, e = .returned (.tuple #[vk, vd]) ∧ WIn w0 n0 w.heap.size t d w' vk vd ps ∧ Below w.heap.size w w' := by
  induction t using Ty.ind with
  | h t ih =>
  intro d sl w hh hn0 hb0 hsz hdp
  have HH := hh
  obtain ⟨ts, hts⟩ : ∃ ts, t.args = ts := ⟨_, rfl⟩
  have hsz2 := t.size_eq
  have hdp2 := t.depth_eq
  have hwi := t.within_eq d
  rw [hts] at hh ih hsz2 hdp2 hwi
  have HWI : Hid _ := hwi
  clear hwi
  obtain ⟨a, cap, rfl, hcap, hat⟩ := hh.shape
  have HA : Hid _ := hat
  clear hat hh
  have hln := sizeL_length ts
  obtain ⟨i0, hi, hz0, hz1, hz2⟩ := info_parts info24
  obtain ⟨j0, hj, hy0, hy1, hy2⟩ := info_parts info3
  obtain ⟨N, hN⟩ : ∃ N, w.heap.size = N := ⟨_, rfl⟩
  rw [hN] at hn0 ⊢
  go_enter Try.func32, Try.ntmps32
  go_wp2
  generalize hw1 : w.alloc (.cells #[.slice a ts.length cap, .int .i64 t.base] 24) = w1
  have b1 : Blk w1 N 24 #[.slice a ts.length cap, .int .i64 t.base] := by rw [← hw1]; exact Blk.new' w N 24 _ hN
  have hz : w1.heap.size = N + 1 := by rw [← hw1]; simp [hN]
  have bl1 : Below N w w1 := by rw [← hw1]; exact (Below.refl N w).alloc (by omega) _
  clear hw1
  have r1 := World.ownsRow_lit (base := N + 1) (e := 24) (size := 2) w1 #[.slice a ts.length cap, .int .i64 t.base] 1 (by omega) (by decide) rfl
  rw [hz] at r1
  have b2 := b1.alloc (.cells #[.slice a ts.length cap, .int .i64 t.base] 24)
  have bl2 := bl1.alloc (by omega) (.cells #[.slice a ts.length cap, .int .i64 t.base] 24)
  have hz2' : (w1.alloc (.cells #[.slice a ts.length cap, .int .i64 t.base] 24)).heap.size = N + 1 + 1 := by simp [hz]
  generalize w1.alloc (.cells #[.slice a ts.length cap, .int .i64 t.base] 24) = w2 at *
  have r2 := World.ownsRow_lit (base := N + 1) (e := 3) (size := 1) w2 #[.int .i64 (d : Int)] 1 (by omega) (by decide) rfl
  rw [hz2'] at r2
  have r3 := r1.alloc (.cells #[.int .i64 (d : Int)] 3)
  have b3 := b2.alloc (.cells #[.int .i64 (d : Int)] 3)
  have bl3 := bl2.alloc (by omega) (.cells #[.int .i64 (d : Int)] 3)
  generalize w2.alloc (.cells #[.int .i64 (d : Int)] 3) = w3 at *
  clear b1 b2 bl1 bl2 r1
  go_loopw [6, 7, 8, 9, 10] (fun l ds i _ _ wr => ∃ (k : Nat) (vk vd : Value) (ps : List (Value × Ty)), k ≤ ts.length ∧ i = .int .i64 k ∧ l = vk ∧ ds = vd ∧ Hid (ps.map (·.2) = ((d, t) :: withinL (d + 1) (ts.take k)).map (·.2)) ∧ (∀ p ∈ ps, Holds w0 (fun b => b < n0) p.2.args p.1) ∧ Blk wr N 24 #[.slice a ts.length cap, .int .i64 t.base] ∧ wr.ownsRow (N + 1) 24 2 vk ps.length (pcells ps) ∧ wr.ownsRow (N + 1) 3 1 vd ps.length (ints (deps ((d, t) :: withinL (d + 1) (ts.take k)))) ∧ Below N w wr)
    (fun _ _ i _ _ _ => ts.length - (intOf i).toNat)
  case atStart => exact ⟨0, _, _, [(.slice a ts.length cap, t)], Nat.zero_le _, rfl, rfl, rfl, by show _ = _; simp [withinL], fun p hp => by rw [List.mem_singleton.1 hp]; exact HH, b3, r3, by simpa [withinL, ints, deps] using r2, bl3⟩
  case round =>
    clear b3 r3 r2 bl3 hz hz2'
    obtain ⟨k, vk, vd, ps, hk, rfl, rfl, rfl, HP, hkid, bN, rk, rd, hbl⟩ := hrel
    have hMw : N + 1 ≤ wr.heap.size := bN.lt
    have HK : Hid _ := hkid
    clear hkid
    have r0 := bN.cell 0
    have hpl : ps.length = 1 + sizeL (ts.take k) := by
      have := congrArg List.length HP.out
      rw [List.length_map, List.length_map, List.length_cons, withinL_length _ _ (fun t _ => t.within_length)] at this
      omega
    have hle0 := sizeL_take_le ts k
    by_cases hlt : k < ts.length
    · obtain ⟨u, hu⟩ : ∃ u, ts[k]? = some u := ⟨_, List.getElem?_eq_getElem hlt⟩
      obtain ⟨g, o, s, rfl, hg, _, a0, a1, hs⟩ := HA.out k u hu
      have hwr : Below n0 w0 wr := hb0.trans (hbl.mono hn0)
      have q0 := (cat hwr hg).trans a0
      have q1 := (cat hwr hg).trans a1
      have hm := List.mem_of_getElem? hu
      have hus := size_mem hm
      have hud := depth_mem hm
      have hup := u.size_eq
      have y1 : (0 : Int) ≤ (k : Int) := by omega
      have y2 : (k : Int) < (ts.length : Int) := by omega
      have hle : sizeL (ts.take k) + u.size ≤ sizeL ts := by rw [← sizeL_take hu]; exact sizeL_take_le ts (k + 1)
      have HW2 : Hid ((d, t) :: withinL (d + 1) (ts.take (k + 1)) = ((d, t) :: withinL (d + 1) (ts.take k)) ++ u.within (d + 1)) := by show _ = _; rw [withinL_take hu]; rfl
      have hNw : N ≤ wr.heap.size := by have := hbl.size; omega
      have hcall := ih u hm (d + 1) s wr hs (by omega) hwr (by omega) (by omega)
      rw [show ((d + 1 : Nat) : Int) = (d : Int) + 1 by omega] at hcall
      have hul := u.within_length (d + 1)
      obtain ⟨sa, sc, rfl, _⟩ := hs.shape
      generalize u.args.length = sn at *
      obtain ⟨L, hL⟩ : ∃ L, deps ((d, t) :: withinL (d + 1) (ts.take k)) = L := ⟨_, rfl⟩
      rw [hL] at rd
      have HL : Hid _ := hL
      obtain ⟨n, hn⟩ : ∃ n, ps.length = n := ⟨_, rfl⟩
      rw [hn] at rd rk hpl
      have HN : Hid (ps.length = n) := hn
      clear a0 a1 hu ih hL hn
      have hup1 : 1 ≤ u.size := by omega
      have hnb : n + u.size ≤ 100000 := by omega
      have hn1 : 0 < n := by omega
      have HUL : Hid ((u.within (d + 1)).length = u.size) := hul
      clear hul hup hle hle0 hpl hus hud
      go_wp2_with fail
      refine hcall.mono ?_
      clear hcall
      rintro e wc ⟨vk2, vd2, ps2, rfl, W2, hbc⟩
      obtain ⟨m, hm2⟩ : ∃ m, ps2.length = m := ⟨_, rfl⟩
      have hmu : m = u.size := by
        have := congrArg List.length W2.ty
        rw [List.length_map, List.length_map, HUL.out] at this
        omega
      have rk2 := W2.rk
      have rd2 := W2.rd
      rw [hm2] at rk2 rd2
      have HM : Hid (ps2.length = m) := hm2
      clear hm2
      obtain ⟨g2, c2, rfl, hg2, hgl2⟩ := rk2.form (by omega)
      obtain ⟨h2, e2, rfl, hh2, hhl2⟩ := rd2.form (by omega)
      have rkc := row_bel rk hbc
      have rdc := row_bel rd hbc
      have hwc := hbc.size
      have one2 := one_cells ps2 (fun p hp => by
        obtain ⟨xa, xc, hx, _⟩ := (W2.kid p hp).shape
        rw [hx]
        rfl)
      have HB : Hid _ := hbc
      have HW : Hid _ := W2
      clear rk rd hbc W2 r0 q0 q1
      have p1 : (pcells ps2).length = m * 2 := by rw [pcells_length, HM.out]
      have p2 : ∀ j u, (pcells ps2)[j]? = some u → wc.cell? ((⟨g2, 0, none⟩ : Addr).add j) = some u := rk2.cells rfl
      have p3 : 0 < m := by omega
      have p4 : n + m ≤ maxLen := by unfold maxLen; omega
      have p5 : (n + m) * 32 ≤ 140737488355328 := by omega
      have p6 : N + 1 ≤ wc.heap.size := by omega
      have p7 : u7.ownBlock ≠ u6.ownBlock := (rows_ne rkc rdc (by decide) (by omega)).symm
      have p8 : (Value.slice (some ⟨h2, 0, none⟩) m e2).ownBlock ≠ u6.ownBlock := rows_ne rd2 rkc (by decide) (by omega)
      have p9 : (ints (deps (u.within (d + 1)))).length = m * 1 := by rw [ints_length, deps, List.length_map, HUL.out]; omega
      have p10 : (n + m) * 8 ≤ 140737488355328 := by omega
      have P1 : Hid _ := p1
      have P2 : Hid _ := p2
      have P9 : Hid _ := p9
      have P7 : Hid _ := p7
      have P8 : Hid _ := p8
      have ONE : Hid _ := one2
      clear p1 p2 p9 p7 p8 one2 hmu
      go_wp2_with (first
        | (at_builtin; (refine wpList_append_lies _ rfl _ _ 22 rfl (N + 1) 24 i0 _ 2 32 Try.underlying22 hi hz0 hz1 hz2 rfl (by decide) _ n (pcells ps) rfl rkc ⟨g2, 0, none⟩ m c2 (pcells ps2) rfl P1.out P2.out ONE.out p3 p4 p5 p6 _ rfl ?_); intro g3 cap3 w3 hown3 hgrow3 hat3 hlt3; have rd3 := rdc.kept hgrow3 (.inr P7.out); have rd23 := rd2.kept hgrow3 (.inr P8.out); have p66 := Nat.le_trans p6 hgrow3.size)
        | (at_builtin; refine wpList_append_lies _ rfl _ _ 55 rfl (N + 1) 3 j0 (.int .i64 0) 1 8 Try.underlying55 hj hy0 hy1 hy2 rfl (by decide) _ n (ints L) rfl rd3 ⟨h2, 0, none⟩ m e2 (ints (deps (u.within (d + 1)))) rfl P9.out (rd23.cells rfl) (one_ints _) p3 p4 p10 p66 _ rfl ?_; intro g4 cap4 w4 hown4 hgrow4 hat4 hlt4))
      have bN3 := (bN.below HB.out bN.lt).kept hgrow3 (fun e => by have := (rkc.lt N e.symm).1; omega)
      have bN4 := bN3.kept hgrow4 (fun e => by have := (rd3.lt N e.symm).1; omega)
      have rk4 := hown3.kept hgrow4 (.inr (rows_ne hown3 rd3 (by decide) (by omega)))
      have hB4 : Below N w w4 := ((hbl.trans (HB.out.mono hNw)).grown hgrow3 (by omega) (fun j hj => by have := (rkc.lt j hj).1; omega)).grown hgrow4 (by have := hgrow3.size; omega) (fun j hj => by have := (rd3.lt j hj).1; omega)
      have HP2 : Hid ((ps ++ ps2).map (·.2) = ((d, t) :: withinL (d + 1) (ts.take (k + 1))).map (·.2)) := by
        show _ = _
        rw [List.map_append, HP.out, HW.out.ty, HW2.out, List.map_append]
      have HK2 : Hid (∀ p ∈ ps ++ ps2, Holds w0 (fun b => b < n0) p.2.args p.1) := fun p hp => by
        rcases List.mem_append.1 hp with hp | hp
        · exact HK.out p hp
        · exact HW.out.kid p hp
      have hll : (ps ++ ps2).length = n + m := by rw [List.length_append, HN.out, HM.out]
      rw [← pcells_append] at rk4
      rw [← HL.out, ← ints_append, ← deps_append, ← HW2.out] at hown4
      go_roundw
      case rel => exact ⟨k + 1, _, _, ps ++ ps2, by omega, by go_num, rfl, rfl, HP2, HK2.out, bN4, by rw [hll]; exact rk4, by rw [hll]; exact hown4, hB4⟩
      case measure => simp [intOf]; omega
    · obtain rfl : k = ts.length := by omega
      rw [List.take_length] at HP rd
      go_wp2
      exact bodyPost_ret (v := .tuple #[u6, u7]) (by simp [results, Try.results32, go_sem]) rfl ⟨_, _, ps, rfl, ⟨by rw [HP.out, HWI.out], HK.out, row_mono rk (by omega), by rw [HWI.out]; exact row_mono rd (by omega)⟩, hbl⟩

end Go.Proofs.Ythcncdihgghbjaa
