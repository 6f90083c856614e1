/-
  The chapter's example, in plain words.
-/
import Derived.Test.YtdihplmlbfggjaaDoorNew2
namespace Go.Proofs.YtdihplmlbfggjaaDoor
open Go Go.RowKit Go.Maps

def okT : Nat → Prop := fun _ => True
theorem Holds.t {w : World} {ok : Nat → Prop} {ts : List Ty} {v : Value} (h : Holds w ok ts v) : Holds w okT ts v := h.mono fun _ _ _ => trivial
/-- A slice of types that is built of values. -/
theorem holds_built (w : World) (B : Nat) (hB : w.heap.size = B) (ps : List (Value × Ty)) (e : TypeId) (hk : ∀ p ∈ ps, Holds w okT p.2.args p.1) (n : Nat) (hn : n = ps.length) (cs : Array Value) (hcs : cs = (pcells ps).toArray) : Holds (w.alloc (.cells cs e)) okT (ps.map (·.2)) (.slice (some ⟨B, 0, none⟩) n n) := by
  subst hcs
  subst hn
  have hb := Blk.new' w B e (pcells ps).toArray hB
  have hq : ∀ (i : Nat) (u : Ty), (ps.map (·.2))[i]? = some u → ∃ p : Value × Ty, ps[i]? = some p ∧ p.2 = u := by
    intro i u hi
    rw [List.getElem?_map] at hi
    exact Option.map_eq_some_iff.1 hi
  have := Holds.mk (w := w.alloc (.cells (pcells ps).toArray e)) (ok := okT) (ps.map (·.2)) (some ⟨B, 0, none⟩) ps.length (fun i => ((ps[i]?).map (·.1)).getD undef) (by simp) (fun h => by cases h)
    (fun i u hi => by
      obtain ⟨p, hp, rfl⟩ := hq i u hi
      obtain ⟨c0, c1⟩ := pcells_get ps i p hp
      refine ⟨B, 0, rfl, trivial, ?_, ?_⟩
      · rw [Nat.zero_add, hb.cell, List.getElem?_toArray, c0, hp]; rfl
      · rw [Nat.zero_add, hb.cell, List.getElem?_toArray, c1])
    (fun i u hi => by
      obtain ⟨p, hp, rfl⟩ := hq i u hi
      rw [hp]
      exact (hk p (List.mem_of_getElem? hp)).alloc _)
  rwa [List.length_map] at this

def sNat : ByteArray := ⟨#[110, 97, 116]⟩
def sZ : ByteArray := ⟨#[122]⟩
def sS : ByteArray := ⟨#[115]⟩
def tA : Ty := .mk [] 0
def tAA : Ty := .mk [tA] 0
def csK : List Cn := [⟨sZ, tA⟩, ⟨sS, tAA⟩]
theorem wNat : wordB sNat = true := by decide +kernel
theorem wZ : wordB sZ = true := by decide +kernel
theorem wS : wordB sS = true := by decide +kernel
theorem chkK : chk [sNat] csK = 0 := by decide +kernel
theorem chkN : chk [sNat] [⟨sNat, tA⟩] = 4 := by decide +kernel
theorem inZ0 : inB (cand sZ 0) (names [sNat] csK) = true := by decide +kernel
theorem inZ1 : inB (cand sZ 1) (names [sNat] csK) = false := by decide +kernel
theorem candZ : cand sZ 1 = ⟨#[122, 49]⟩ := by decide +kernel
theorem fitN : FitS [sNat] := fun s h => by simp at h; subst h; decide +kernel
theorem fitK : FitC csK := fun c h => by
  rcases List.mem_cons.1 h with rfl | h
  · exact ⟨by decide +kernel, by decide +kernel⟩
  · obtain rfl : c = ⟨sS, tAA⟩ := by simpa using h
    exact ⟨by decide +kernel, by decide +kernel⟩
theorem fitN2 : FitC [⟨sNat, tA⟩] := fun c h => by
  obtain rfl : c = ⟨sNat, tA⟩ := by simpa using h
  exact ⟨by decide +kernel, by decide +kernel⟩
theorem kS : ([⟨sZ, tA⟩, ⟨sS, tAA⟩].map Cn.name)[1]? = some sS := rfl

end Go.Proofs.YtdihplmlbfggjaaDoor
