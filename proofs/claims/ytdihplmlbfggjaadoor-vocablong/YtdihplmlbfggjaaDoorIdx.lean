/-
  An index in memory, and the contracts of (*Index).find and New.
-/
import Derived.Test.YtdihplmlbfggjaaDoorFind
namespace Go.Proofs.YtdihplmlbfggjaaDoor
open Go Go.RowKit Go.Maps

/-- All names, the bases' first. -/
def names (bs : List ByteArray) (cs : List Cn) : List ByteArray := bs ++ cs.map Cn.name
/-- A table that a machine may hold and that is right as to its names. -/
structure RightT (bs : List ByteArray) (cs : List Cn) : Prop where
  fs : FitS bs
  fc : FitC cs
  len : bs.length + cs.length ≤ 1000
  nodup : (names bs cs).Nodup
/-- AN INDEX IN BLOCK B, with this table. -/
def Ix (w : World) (B : Nat) (bs : List ByteArray) (cs : List Cn) : Prop :=
  ∃ va vb d m, Blk w B 85 #[va, vb, .int .u32 d, .int .i32 0, .int .u32 0, .map m] ∧ HoldsS w (fun b => b ≠ B) bs va ∧ HoldsC w (fun b => b ≠ B) cs vb ∧ ((d = 0 ∧ m = none) ∨ (d = 1 ∧ ∃ M, m = some M ∧ M ≠ B ∧ Nums w M (names bs cs)))
theorem Ix.lt {w : World} {B : Nat} {bs : List ByteArray} {cs : List Cn} (h : Ix w B bs cs) : B < w.heap.size := by
  obtain ⟨va, vb, d, m, h, _⟩ := h
  exact h.lt
theorem Ix.bel {w w' : World} {B : Nat} {bs : List ByteArray} {cs : List Cn} (h : Ix w B bs cs) (hb : Below w.heap.size w w') : Ix w' B bs cs := by
  obtain ⟨va, vb, d, m, h1, h2, h3, h4⟩ := h
  refine ⟨va, vb, d, m, h1.below hb h1.lt, h2.bel hb, h3.bel hb, h4.imp id ?_⟩
  rintro ⟨rfl, M, rfl, hM, hn⟩
  exact ⟨rfl, M, rfl, hM, hn.only (Only.of_below' (S := []) hb) (by simp)⟩
theorem Ix.drew {w : World} {B : Nat} {bs : List ByteArray} {cs : List Cn} (h : Ix w B bs cs) : Ix w.drew B bs cs := h.bel (Below.refl _ _).drew

set_option maxRecDepth 100000 in
set_option maxHeartbeats 1600000 in
theorem Do_calls (bs : List ByteArray) (cs : List Cn) (hT : RightT bs cs) (B P : Nat) (w : World) (hI : Ix w B bs cs) (hp : Blk w P 31 #[.pointer (some ⟨B, 0, none⟩)]) (hPB : P ≠ B) :
    Calls Tryd.prog 52 #[.pointer (some ⟨B, 2, none⟩), .func (.func 53) #[] #[.pointer (some ⟨P, 0, none⟩)]] w fun e w' => e = .returned (.tuple #[]) ∧
      ∃ va vb M, Blk w' B 85 #[va, vb, .int .u32 1, .int .i32 0, .int .u32 0, .map (some M)] ∧ HoldsS w' (fun b => b ≠ B) bs va ∧ HoldsC w' (fun b => b ≠ B) cs vb ∧ M ≠ B ∧ Nums w' M (names bs cs) ∧ Only [B] w w' := by
  have hnot : ∀ (x : Bool) (w : World), (Op.unary .not (.bool x)).run Tryd.prog w = .ok (.bool (!x)) w := fun _ _ => rfl
  obtain ⟨va, vb, d, m, hB, hS, hC, hd⟩ := hI
  rcases hd with ⟨rfl, rfl⟩ | ⟨rfl, M, rfl, hM, hN⟩
  · have hL := slow_calls bs cs (fun b => b ≠ B) va vb B P w hp hB hS hC (by simp) hPB hT.fs hT.fc hT.len hT.nodup
    have HB := bool_load ⟨B, 2, none⟩ 0 false rfl w (hB.cell 2)
    have hlB := hB.lt
    clear hB hp
    go_enter Tryd.func52, Tryd.ntmps52
    go_wp2_with (first
      | (go_at_call 68; refine hL.mono ?_; rintro e w' ⟨rfl, M, hM, hB, hN, hO⟩)
      | (go_at_call 67; refine HB.mono ?_; rintro e w' ⟨rfl, rfl⟩))
    go_end0
    exact ⟨rfl, va, vb, M, hB, hS.only hO (fun b hb => by simpa using hb), hC.only hO (fun b hb => by simpa using hb), by omega, hN, hO⟩
  · have HB := bool_load ⟨B, 2, none⟩ 1 true rfl w (hB.cell 2)
    go_enter Tryd.func52, Tryd.ntmps52
    go_wp2_with (go_at_call 67; refine HB.mono ?_; rintro e w' ⟨rfl, rfl⟩)
    go_end0
    exact ⟨rfl, va, vb, M, hB, hS, hC, hM, hN, Only.refl _ _⟩

set_option maxRecDepth 100000 in
set_option maxHeartbeats 1600000 in
theorem find_calls (bs : List ByteArray) (cs : List Cn) (hT : RightT bs cs) (s : ByteArray) (hs : s.size ≤ 140737488355328) (B : Nat) (w : World) (hI : Ix w B bs cs) :
    Calls Tryd.prog 41 #[.pointer (some ⟨B, 0, none⟩), .string s] w fun e w' => ∃ c : Int, e = .returned (.tuple #[.int .i64 c, .bool (inB s (names bs cs))]) ∧ (∀ i : Nat, (names bs cs)[i]? = some s → c = (i : Int)) ∧ Ix w' B bs cs ∧ Only [B] w w' := by
  have hmf : ∀ (fn : Fn) (first cap : Array Value) (w : World), (Instr.makeFunc fn first cap).run Tryd.prog w = .ok (.func fn first cap) w := fun _ _ _ _ => rfl
  have hkey : keyOf Tryd.prog 9 (.string s) = some (kOf s) := WideMaps.keyOf_string_mk Tryd.underlying9 (by unfold maxLen; omega)
  obtain ⟨N, hN⟩ : ∃ N, w.heap.size = N := ⟨_, rfl⟩
  have hlB := hI.lt
  obtain ⟨W, hW⟩ : ∃ W, w.alloc (.cells #[.pointer (some ⟨B, 0, none⟩)] 31) = W := ⟨_, rfl⟩
  have hp : Blk W N 31 #[.pointer (some ⟨B, 0, none⟩)] := by rw [← hW]; exact Blk.new' _ N 31 _ hN
  have O0 : Only [B] w W := by rw [← hW]; exact (Only.refl _ _).alloc _
  have hI0 : Ix W B bs cs := hI.bel (by rw [← hW]; exact (Below.refl _ _).alloc (Nat.le_refl _) _)
  have hD := Do_calls bs cs hT B N W hI0 hp (by omega)
  have s0 := hp.cell 0
  clear hI hI0
  go_enter Tryd.func41, Tryd.ntmps41
  go_wp2_with (first
    | (go_at_call 52; refine hD.mono ?_; rintro e w1 ⟨rfl, va, vb, M, hB, hS, hC, hM, ⟨D, hown, htd, hh, hv⟩, O1⟩; have s1 := (O1.cell (p := ⟨N, 0, none⟩) hp.lt (by simp; omega)).trans s0; have s2 := hB.cell 5; have hm : Nums w1 M (names bs cs) := ⟨D, hown, htd, hh, hv⟩; have hh1 := hh s; have Hv : Hid (∀ (i : Nat), (names bs cs)[i]? = some s → D.atKey (kOf s) (.lit (.int .i64 0)) = .lit (.int .i64 i)) := fun i => hv i s; clear hh hv)
    | (at_lookup; refine wpList_lookup_own_ok_int _ rfl _ _ 83 rfl 9 3 .i64 law9 Tryd.underlying83 Tryd.underlying3 (zero3 _) M (names bs cs).length D rfl hown _ _ rfl hkey ?_; intro c hat hwc; rw [hh1]))
  refine bodyPost_ret (v := .tuple #[.int .i64 c, .bool (inB s (names bs cs))]) (by simp [results, Tryd.results41, go_sem]) rfl ?_
  refine ⟨c, rfl, fun i hi => ?_, ⟨va, vb, 1, some M, hB, hS, hC, .inr ⟨rfl, M, rfl, hM, hm⟩⟩, O0.trans O1⟩
  have := hat.symm.trans (Hv.out i hi)
  injection this with h1
  injection h1

end Go.Proofs.YtdihplmlbfggjaaDoor
