/-
  The contract of lex.blame: the fault of a token, at its place.
-/
import Derived.Test.YtdihplmlbfggjaaDoorLxNext
namespace Go.Proofs.YtdihplmlbfggjaaDoor.Lx
open Go Go.RowKit Go.Shelf Plain Lex

theorem badWord_some (kd : Nat) (t : ByteArray) (h : ¬ kd = 0) : badWord kd t = headB t := by
  unfold badWord; rw [if_neg]; exact fun x => h x.1
theorem one_byte (t : ByteArray) (h : t.size = 1) : t.data.toList = [t[0]] := by
  have := drop_cons t 0 (by omega)
  rw [List.drop_zero, List.drop_eq_nil_of_le (by simp [h])] at this
  exact this
theorem badWord_out (t : ByteArray) (h : t.size = 1) (hb : t[0].toNat < 33 ∨ 126 < t[0].toNat) : badWord 0 t = ⟨#[]⟩ := by
  unfold badWord; rw [if_pos]; refine ⟨rfl, ?_⟩
  rw [one_byte t h]; simpa using hb
theorem badWord_in (t : ByteArray) (h : t.size = 1) (hb : ¬ (t[0].toNat < 33 ∨ 126 < t[0].toNat)) : badWord 0 t = headB t := by
  unfold badWord; rw [if_neg]; intro hx
  have := hx.2
  rw [one_byte t h] at this
  exact hb (this _ (by simp))

end Go.Proofs.YtdihplmlbfggjaaDoor.Lx
