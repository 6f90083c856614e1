/-
  The law's many words.
-/
import Derived.Test.YtdihplmlbfggjaaDoorKnown
import Derived.Laws.BytesArg
namespace Go.Proofs.YtdihplmlbfggjaaDoor
open Go Go.RowKit Go.Maps

/-- One of many words. -/
def wordOf (i : Nat) : ByteArray := ⟨#[119, UInt8.ofNat (97 + i % 26), UInt8.ofNat (97 + i / 26 % 26), UInt8.ofNat (97 + i / 676 % 26)]⟩
theorem wordOf_all : ∀ i : Fin 1010, wordB (wordOf i.val) = true := by decide +kernel

theorem word_bytes (i : Nat) : strOfNums [119, 97 + (i : Int) % 26, 97 + (i : Int) / 26 % 26, 97 + (i : Int) / 676 % 26] = wordOf i := by
  have h1 : (97 + (i : Int) % 26).toNat = 97 + i % 26 := by omega
  have h2 : (97 + (i : Int) / 26 % 26).toNat = 97 + i / 26 % 26 := by omega
  have h3 : (97 + (i : Int) / 676 % 26).toNat = 97 + i / 676 % 26 := by omega
  simp only [strOfNums, List.map_cons, List.map_nil, h1, h2, h3]
  rfl
theorem ofNat_small {a b : Nat} (ha : a < 256) (hb : b < 256) (h : UInt8.ofNat a = UInt8.ofNat b) : a = b := by
  have := congrArg UInt8.toNat h
  rw [UInt8.toNat_ofNat', UInt8.toNat_ofNat'] at this
  omega
theorem wordOf_inj {i j : Nat} (hi : i < 17576) (hj : j < 17576) (h : wordOf i = wordOf j) : i = j := by
  have hd := congrArg (fun b : ByteArray => b.data.toList) h
  simp only [wordOf, List.cons.injEq, and_true, true_and] at hd
  have h1 := ofNat_small (by omega) (by omega) hd.1
  have h2 := ofNat_small (by omega) (by omega) hd.2.1
  have h3 := ofNat_small (by omega) (by omega) hd.2.2
  omega

set_option maxRecDepth 100000 in
set_option maxHeartbeats 400000 in
theorem word_calls (i : Nat) (hi : i < 1010) (w : World) : Calls Tryd.prog 15 #[.int .i64 i] w fun e w' => e = .returned (.string (wordOf i)) ∧ Below w.heap.size w w' := by
  have hconv := run_convert_bytes_arg (P := Tryd.prog) (w.alloc (.cells #[.int .u8 119, .int .u8 (97 + (i : Int) % 26), .int .u8 (97 + (i : Int) / 26 % 26), .int .u8 (97 + (i : Int) / 676 % 26)] 5)) 92 5 Tryd.underlying92 Tryd.underlying5 w.heap.size 0 4 4 [119, 97 + (i : Int) % 26, 97 + (i : Int) / 26 % 26, 97 + (i : Int) / 676 % 26] rfl
    (fun j hj => by
      have b := Blk.new w 5 #[.int .u8 119, .int .u8 (97 + (i : Int) % 26), .int .u8 (97 + (i : Int) / 26 % 26), .int .u8 (97 + (i : Int) / 676 % 26)]
      obtain rfl | rfl | rfl | rfl : j = 0 ∨ j = 1 ∨ j = 2 ∨ j = 3 := by omega
      · exact b.cell 0
      · exact b.cell 1
      · exact b.cell 2
      · exact b.cell 3)
  have hB := (Below.refl w.heap.size w).alloc (Nat.le_refl _) (.cells #[.int .u8 119, .int .u8 (97 + (i : Int) % 26), .int .u8 (97 + (i : Int) / 26 % 26), .int .u8 (97 + (i : Int) / 676 % 26)] 5)
  go_enter Tryd.func15, Tryd.ntmps15
  go_wp2
  go_ret
  refine ⟨?_, hB⟩
  rw [← word_bytes]
  rfl

end Go.Proofs.YtdihplmlbfggjaaDoor
