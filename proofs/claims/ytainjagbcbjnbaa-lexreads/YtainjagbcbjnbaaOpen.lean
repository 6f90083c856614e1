/-
  A list of calls on a reader that came in: what its cells hold.
-/
import Derived.Test.YtainjagbcbjnbaaFrame
import Derived.Test.YtainjagbcbjnbaaReads
import Derived.Deep.Strs
namespace Go.Proofs.Ytainjagbcbjnbaa
open Go Go.ChangeShapes Go.WideShapes Go.ChangeAt Go.RowKit Go.Joins

theorem cells3 : Try.prog.cellsOf 3 = 1 := by kernel_rfl
theorem cells9 : Try.prog.cellsOf 9 = 1 := by kernel_rfl
theorem cells56 : Try.prog.cellsOf 56 = 1 := by kernel_rfl
theorem cells58 : Try.prog.cellsOf 58 = 3 := by kernel_rfl

/-- A call on a reader. -/
structure ActD where
  kd : Int
  nn : Int
  ta : Option Addr
  tn : Nat
  tc : Nat
  xs : Nat → ByteArray

/-- What a call's cells hold. -/
structure ActOk (W : World) (z : ActD) : Prop where
  cap : z.tn ≤ z.tc ∧ z.tc ≤ 9223372036854775807
  nul : z.ta = none → z.tn = 0 ∧ z.tc = 0
  strs : Strs W z.ta z.tn z.xs

theorem act_open {H : Type} {enc : TypeId × Value → H} {W : World} {base : Nat} {held : Bool} {n : Nat} {cs : List Value} {x : DataW H × List MemPlace}
    (hl : cs.length = 3) (h : DataW.trod enc Try.prog W base (fun _ => true) held n 58 cs = some x) : ∃ z : ActD, cs = [.int .i64 z.kd, .int .i64 z.nn, .slice z.ta z.tn z.tc] ∧ ActOk W z := by
  match cs, hl with
  | [c0, c1, c2], _ =>
    obtain ⟨y0, y1, y2, m, _, _, t0, t1, t2⟩ := Deep.trod_struct3 Try.underlying58 h
    simp only [List.drop_zero, List.drop_succ_cons, cells3, cells56, List.take_succ_cons, List.take_zero] at t0 t1 t2
    obtain ⟨a, e0, _, _⟩ := DataW.trod_int Try.underlying3 t0
    obtain ⟨b, e1, _, _⟩ := DataW.trod_int Try.underlying3 t1
    simp only [List.cons.injEq, and_true] at e0 e1
    subst e0 e1
    rcases Deep.open_strs Try.underlying56 Try.underlying9 cells9 t2 with ⟨hcs, _⟩ | ⟨ad, len, cap, k, Sx, hcs, _, hlc, hcm, hk, _, hc⟩
    · simp only [List.cons.injEq, and_true] at hcs
      subst hcs
      exact ⟨⟨a, b, none, 0, 0, fun _ => ⟨#[]⟩⟩, rfl, ⟨⟨Nat.le_refl _, Nat.zero_le _⟩, fun _ => ⟨rfl, rfl⟩, fun h => absurd h (Nat.lt_irrefl 0)⟩⟩
    · simp only [List.cons.injEq, and_true] at hcs
      subst hcs
      simp only [if_true] at hk
      subst hk
      refine ⟨⟨a, b, some ad, len, k, Sx⟩, rfl, ⟨⟨hlc, by unfold maxLen at hcm; simp only; omega⟩, (fun h => by cases h), fun h0 => ?_⟩⟩
      obtain ⟨bl, off, spot⟩ := ad
      have c0 := (hc 0 (by simp only at h0; omega)).1
      have c0' : W.cell? ⟨bl, off, spot⟩ = some (.string (Sx 0)) := by simpa [Addr.add] using c0
      have hs : spot = none := World.cell?_spot c0'
      subst hs
      refine ⟨bl, off, rfl, World.block_lt_of_cell? W _ c0', fun j hj => ?_⟩
      have := (hc j (by simp only at hj; omega)).1
      rw [add_plain] at this
      exact this

theorem acts_open {H : Type} {enc : TypeId × Value → H} {W : World} {a0 : Option Addr} {len cap : Nat} {d : DataW H} {p : List MemPlace}
    (h : DataW.Trod enc Try.prog W 0 (fun _ => true) true 50 (.slice a0 len cap) d p) :
    (len ≤ cap ∧ cap ≤ maxLen) ∧ ∃ F : Nat → ActD, 0 < len → ∃ A o, a0 = some ⟨A, o, none⟩ ∧ Acts W A o len (fun k => (F k).kd) (fun k => (F k).nn) (fun k => (F k).ta) (fun k => (F k).tn) (fun k => (F k).tc) (fun k => (F k).xs) := by
  obtain ⟨fuel, hf⟩ := h
  rcases Deep.open_slice Try.underlying50 hf with ⟨hcs, _⟩ | ⟨a, len', cap', m, n, D, Pl, hcs, _, hl, hm, hmm, _, hall⟩
  · simp [Value.cells] at hcs
    obtain ⟨_, rfl, rfl⟩ := hcs
    exact ⟨⟨Nat.le_refl _, Nat.zero_le _⟩, fun _ => ⟨0, 0, none, 0, 0, fun _ => ⟨#[]⟩⟩, fun h => absurd h (by omega)⟩
  · simp [Value.cells] at hcs
    obtain ⟨rfl, rfl, rfl⟩ := hcs
    simp only [if_true] at hmm
    subst hmm
    rw [cells58] at hall
    have hF : ∀ i, i < m → ∃ z : ActD, ActOk W z ∧ ∀ j, j < 3 → W.cell? ((a.add (i * 3)).add j) = ([.int .i64 z.kd, .int .i64 z.nn, .slice z.ta z.tn z.tc] : List Value)[j]? := fun i hi => by
      obtain ⟨cs', h1, h2⟩ := hall i hi
      obtain ⟨_, hlen, hcell⟩ := World.cells?_some h1
      obtain ⟨z, hz, hok⟩ := act_open hlen h2
      exact ⟨z, hok, fun j hj => by rw [hcell j hj, hz]⟩
    obtain ⟨F, hFF⟩ := @Deep.choose_lt ActD ⟨⟨0, 0, none, 0, 0, fun _ => ⟨#[]⟩⟩⟩ m _ hF
    refine ⟨⟨hl, hm⟩, F, fun h0 => ?_⟩
    obtain ⟨b, off, spot⟩ := a
    have c0 := (hFF 0 (by omega)).2 0 (by omega)
    have c0' : W.cell? ⟨b, off, spot⟩ = some (.int .i64 (F 0).kd) := by simpa [Addr.add] using c0
    have hs : spot = none := World.cell?_spot c0'
    subst hs
    have hc : ∀ k, k < len → ∀ j, j < 3 → W.cell? ⟨b, off + k * 3 + j, none⟩ = ([.int .i64 (F k).kd, .int .i64 (F k).nn, .slice (F k).ta (F k).tn (F k).tc] : List Value)[j]? := fun k hk j hj => by
      have := (hFF k (by omega)).2 j hj
      rw [add_plain, add_plain] at this
      exact this
    exact ⟨b, off, rfl, ⟨World.block_lt_of_cell? W _ c0', fun k hk => hc k hk 0 (by omega), fun k hk => hc k hk 1 (by omega), fun k hk => hc k hk 2 (by omega), fun k hk => (hFF k (by omega)).1.cap, fun k hk => (hFF k (by omega)).1.nul, fun k hk => (hFF k (by omega)).1.strs⟩⟩

end Go.Proofs.Ytainjagbcbjnbaa
