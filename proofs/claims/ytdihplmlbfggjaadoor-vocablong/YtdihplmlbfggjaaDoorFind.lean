/-
  (*Index).find: the names' numbers are laid at the first question, and looked up.
-/
import Derived.Test.YtdihplmlbfggjaaDoorNums
import Derived.Test.YtdihplmlbfggjaaDoorOnce
namespace Go.Proofs.YtdihplmlbfggjaaDoor
open Go Go.RowKit Go.Maps

set_option maxRecDepth 100000 in
set_option maxHeartbeats 1600000 in
/-- '(*sync.Once).doSlow', not yet done and the lock free. -/
theorem slow_calls (bs : List ByteArray) (cs : List Cn) (ok : Nat → Prop) (va vb : Value) (B P : Nat) (w : World) (hp : Blk w P 31 #[.pointer (some ⟨B, 0, none⟩)]) (hB : Blk w B 85 #[va, vb, .int .u32 0, .int .i32 0, .int .u32 0, .map none])
    (hS : HoldsS w ok bs va) (hC : HoldsC w ok cs vb) (hok : ¬ ok B) (hPB : P ≠ B) (fs : FitS bs) (fc : FitC cs) (hlen : bs.length + cs.length ≤ 1000) (hnd : (bs ++ cs.map Cn.name).Nodup) :
    Calls Tryd.prog 68 #[.pointer (some ⟨B, 2, none⟩), .func (.func 53) #[] #[.pointer (some ⟨P, 0, none⟩)]] w fun e w' => e = .returned (.tuple #[]) ∧ ∃ M, w.heap.size ≤ M ∧ Blk w' B 85 #[va, vb, .int .u32 1, .int .i32 0, .int .u32 0, .map (some M)] ∧ Nums w' M (bs ++ cs.map Cn.name) ∧ Only [B] w w' := by
  have hnot : ∀ (x : Bool) (w : World), (Op.unary .not (.bool x)).run Tryd.prog w = .ok (.bool (!x)) w := fun _ _ => rfl
  have hnB : ∀ b, ok b → b ∉ [B] := fun b hb h => hok (by simp at h; exact h ▸ hb)
  obtain ⟨w1, hw1⟩ : ∃ w1, w.setCell ⟨B, 3, none⟩ (.int .i32 1) = w1 := ⟨_, rfl⟩
  have O1 : Only [B] w w1 := by rw [← hw1]; exact (Only.refl _ _).set (by simp) 3 _
  have B1 : Blk w1 B 85 #[va, vb, .int .u32 0, .int .i32 1, .int .u32 0, .map none] := by rw [← hw1]; exact hB.set 3 _
  have hs1 : w1.heap.size = w.heap.size := by rw [← hw1]; simp
  have hF := find1_calls bs cs ok va vb _ _ _ _ B P w1 (hp.only O1 (by simpa using hPB)) B1 (hS.only O1 hnB) (hC.only O1 hnB) hok hPB fs fc hlen hnd
  rw [hs1] at hF
  have HL := lock_free ⟨B, 3, none⟩ w (hB.cell 3) (hB.frozen 3)
  rw [hw1] at HL
  have HB := bool_load ⟨B, 2, none⟩ 0 false rfl w1 (B1.cell 2)
  clear hS hC hp hB B1 hw1
  go_enter_defers Tryd.func68, Tryd.ntmps68
  go_wp2_with (first
    | (go_at_call 81; refine HL.mono ?_; rintro e w' ⟨rfl, rfl⟩)
    | (go_at_call 67; refine HB.mono ?_; rintro e w' ⟨rfl, rfl⟩)
    | (go_at_call 53; refine hF.mono ?_; rintro e w2 ⟨rfl, M, hM, B2, m2, O2⟩))
  have O3 : Only [B] w w2 := O1.then O2 (by simp)
  have hMB : M ≠ B := by
    intro e
    subst e
    obtain ⟨D, ⟨es, cl, h1, _⟩, _⟩ := m2
    have := B2.symm.trans h1
    cases this
  obtain ⟨w3, hw3⟩ : ∃ w3, w2.drew.setCell ⟨B, 2, none⟩ (.int .u32 1) = w3 := ⟨_, rfl⟩
  have O4 : Only [B] w2 w3 := by rw [← hw3]; exact (Only.refl _ _).drew.set (by simp) 2 _
  have B3 : Blk w3 B 85 #[va, vb, .int .u32 1, .int .i32 1, .int .u32 0, .map (some M)] := by rw [← hw3]; exact B2.drew.set 2 _
  obtain ⟨w4, hw4⟩ : ∃ w4, w3.setCell ⟨B, 3, none⟩ (.int .i32 0) = w4 := ⟨_, rfl⟩
  have O5 : Only [B] w3 w4 := by rw [← hw4]; exact (Only.refl _ _).set (by simp) 3 _
  have B4 : Blk w4 B 85 #[va, vb, .int .u32 1, .int .i32 0, .int .u32 0, .map (some M)] := by rw [← hw4]; exact B3.set 3 _
  refine leaves_cons (f := 83) (args := #[.pointer (some ⟨B, 2, none⟩), .bool true]) (by simp) (by simp [go_sem]) ?_
  refine (store_deferred ⟨B, 2, none⟩ (.int .u32 0) .returning _ (B2.cell 2) (B2.frozen 2)).mono ?_
  rintro e u' w'' ⟨rfl, rfl, rfl⟩
  rw [hw3]
  refine leaves_cons (f := 82) (args := #[.pointer (some ⟨B, 3, none⟩)]) (by simp [settle]) (by simp [go_sem]) ?_
  refine (unlock_deferred ⟨B, 3, none⟩ _ _ (B3.cell 3) (B3.frozen 3)).mono ?_
  rintro e u' w'' ⟨rfl, rfl, rfl⟩
  rw [hw4]
  simp [Leaves, settle, results, Tryd.results68]
  exact ⟨M, hM, B4, m2.only (O4.trans O5) (by simpa using hMB), (O3.trans O4).trans O5⟩

end Go.Proofs.YtdihplmlbfggjaaDoor
