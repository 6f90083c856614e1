/-
  The contracts of the document's Number, Base, ConstOf and Fresh.
-/
import Derived.Test.YtdihplmlbfggjaaDoorCands
import Derived.Test.YtdihplmlbfggjaaDoorRefChk
import Derived.WalkSmall
import Derived.WalkLawsBesides
import Derived.Laws.BytesArg
namespace Go.Proofs.YtdihplmlbfggjaaDoor
open Go Go.RowKit Go.Maps

/-- 'string of one byte that was just laid'. -/
theorem conv_one (w : World) (x : Int) : Sem.run Tryd.prog (convert 92 9 (.slice (some ⟨w.heap.size, 0, none⟩) 1 1)) (w.alloc (.cells #[.int .u8 x] 5)) = .ok (.string ⟨#[UInt8.ofNat x.toNat]⟩) (w.alloc (.cells #[.int .u8 x] 5)) := by
  have h := run_convert_bytes_arg (P := Tryd.prog) (w.alloc (.cells #[.int .u8 x] 5)) 92 5 Tryd.underlying92 Tryd.underlying5 w.heap.size 0 1 1 [x] rfl
    (fun i hi => by obtain rfl : i = 0 := by omega
                    exact (Blk.new w 5 #[.int .u8 x]).cell 0) 9 Tryd.underlying9
  exact h

theorem digit_byte (n : Nat) : UInt8.ofNat (48 + (n : Int) % 10).toNat = UInt8.ofNat (48 + n % 10) := by
  have : (48 + (n : Int) % 10).toNat = 48 + n % 10 := by omega
  rw [this]

/-- What is left of a number's digits, with those that were cut off. -/
def digitsOf (n : Nat) (rest : List UInt8) : List UInt8 := if n = 0 then rest else Lib.decDigits n ++ rest
theorem digitsOf_step (n : Nat) (rest : List UInt8) (h : 0 < n) : digitsOf (n / 10) (UInt8.ofNat (48 + n % 10) :: rest) = digitsOf n rest := by
  unfold digitsOf
  rw [if_neg (show ¬ n = 0 by omega)]
  by_cases h1 : n < 10
  · have e : Lib.decDigits n = [UInt8.ofNat (48 + n)] := by rw [Lib.decDigits, dif_pos h1]
    rw [e, if_pos (by omega)]
    have : n % 10 = n := by omega
    rw [this]; rfl
  · have e : Lib.decDigits n = Lib.decDigits (n / 10) ++ [UInt8.ofNat (48 + n % 10)] := by rw [Lib.decDigits, dif_neg h1]
    rw [e, if_neg (by omega)]
    simp
theorem digitsOf_first (n : Nat) : digitsOf (n / 10) [UInt8.ofNat (48 + n % 10)] = Lib.decDigits n := by
  by_cases h : n = 0
  · subst h; rw [Lib.decDigits]; simp [digitsOf]
  · rw [digitsOf_step n [] (by omega)]; unfold digitsOf; rw [if_neg h]; simp

theorem one_append (b : UInt8) (rest : List UInt8) : (⟨#[b]⟩ : ByteArray) ++ ⟨rest.toArray⟩ = ⟨(b :: rest).toArray⟩ := by
  apply ByteArray.ext
  simp

set_option maxHeartbeats 800000 in
theorem Number_pos (n : Nat) (hn : (n : Int) ≤ 9223372036854775807) (w : World) :
    Calls Tryd.prog 40 #[.int .i64 n] w fun r w' => r = .returned (.string ⟨(Lib.decDigits n).toArray⟩) ∧ Below w.heap.size w w' := by
  obtain ⟨N, hN⟩ : ∃ N, w.heap.size = N := ⟨_, rfl⟩
  have HN : Hid (w.heap.size = N) := hN
  clear hN
  have g0 : ((n : Int) == -9223372036854775808) = false := by simp
  have g1 : decide ((n : Int) < 0) = false := by simp
  have kc := conv_one
  go_enter Tryd.func40, Tryd.ntmps40
  go_wp2
  go_loopw [0, 3] (fun x t wr => ∃ (m : Nat) (rest : List UInt8), x = .int .i64 m ∧ t = .string ⟨rest.toArray⟩ ∧ Hid (digitsOf m rest = Lib.decDigits n) ∧ rest.length + m ≤ n / 10 + 1 ∧ Below N w wr)
    (fun x _ _ => (intOf x).toNat)
  case atStart => exact ⟨n / 10, [UInt8.ofNat (48 + n % 10)], rfl, rfl, digitsOf_first n, by simp; omega, (Below.refl N w).alloc (Nat.le_of_eq HN.out.symm) _⟩
  case round =>
    obtain ⟨m, rest, rfl, rfl, hd, hle, hb⟩ := hrel
    by_cases hm : 0 < m
    · have hsz : (⟨rest.toArray⟩ : ByteArray).size = rest.length := rfl
      have hwr : N ≤ wr.heap.size := by have := hb.size; have := HN.out; omega
      go_wp2
      refine ⟨⟨m / 10, UInt8.ofNat (48 + m % 10) :: rest, rfl, ?_, ?_, ?_, hb.alloc hwr _⟩, ?_⟩
      · rw [one_append, UInt8.ofNat_add]; rfl
      · show _ = _; rw [digitsOf_step m rest hm]; exact hd.out
      · simp only [List.length_cons]; omega
      · simp only [intOf]; omega
    · obtain rfl : m = 0 := by omega
      go_wp2
      go_ret
      have e : rest = Lib.decDigits n := by have := hd.out; simpa [digitsOf] using this
      exact ⟨by rw [← e]; rfl, by rw [HN.out]; exact hb⟩


/-- Where a name is among others, or that it isn't: -1. -/
def Found (l : List ByteArray) (s : ByteArray) (n : Int) : Prop := (∃ i : Nat, n = i ∧ l[i]? = some s ∧ NoneUp l s i) ∨ (n = -1 ∧ inB s l = false)
theorem Found.iff {l : List ByteArray} {s : ByteArray} {n : Int} (h : Found l s n) : decide (0 ≤ n) = inB s l := by
  rcases h with ⟨i, rfl, h1, _⟩ | ⟨rfl, h⟩
  · rw [(inB_iff s l).2 (List.mem_of_getElem? h1)]
    simp
  · rw [h]; rfl
theorem inB_names (s : ByteArray) (bs : List ByteArray) (cs : List Cn) : inB s (names bs cs) = (inB s bs || inB s (cs.map Cn.name)) := by
  unfold names inB; rw [List.any_append]
theorem NoneUp.end {l : List ByteArray} {s : ByteArray} (h : NoneUp l s l.length) : inB s l = false := by
  have := h.notin
  rwa [List.take_length] at this

set_option maxRecDepth 100000 in
set_option maxHeartbeats 800000 in
theorem refBase_calls (bs : List ByteArray) (s : ByteArray) (ok : Nat → Prop) (va : Value) (yb : Option Addr) (yn yc : Nat) (w : World) (hS : HoldsS w ok bs va) (hlen : bs.length ≤ 1000000) :
    Calls Tryd.prog 38 #[tab va (.slice yb yn yc), .string s] w fun e w' => ∃ n : Int, e = .returned (.int .i64 n) ∧ Found bs s n ∧ Below w.heap.size w w' := by
  obtain ⟨N, hN⟩ : ∃ N, w.heap.size = N := ⟨_, rfl⟩
  have hS' : HoldsS w (fun b => b < N) bs va := hS.mono fun b hb _ => by omega
  obtain ⟨a, cap, rfl, hcap, _, hat⟩ := hS'
  have HA : Hid _ := hat
  have HN : Hid (w.heap.size = N) := hN
  obtain ⟨nb, hnb⟩ : ∃ nb, bs.length = nb := ⟨_, rfl⟩
  have HNB : Hid (bs.length = nb) := hnb
  rw [hnb] at hcap hlen ⊢
  rw [hN]
  clear hat hS hnb
  obtain ⟨w0, hw0⟩ : ∃ w0, w.alloc (.cells #[.slice a nb cap, .slice yb yn yc] 25) = w0 := ⟨_, rfl⟩
  have b0 : Blk w0 N 25 #[.slice a nb cap, .slice yb yn yc] := by rw [← hw0]; exact Blk.new' w N 25 _ hN
  have bl0 : Below N w w0 := by rw [← hw0]; exact (Below.refl N w).alloc (by omega) _
  go_enter Tryd.func38, Tryd.ntmps38
  go_wp2_with fail
  clear hw0 hN
  go_loopw [5] (fun i wr => ∃ k : Nat, k ≤ nb ∧ i = .int .i64 k ∧ Hid (NoneUp bs s k) ∧ w0 = wr) (fun i _ => nb - (intOf i).toNat)
  case atStart => exact ⟨0, Nat.zero_le _, rfl, NoneUp.zero _ _, rfl⟩
  case round =>
    obtain ⟨k, hk, rfl, HF, rfl⟩ := hrel
    have r0 := b0.cell 0
    by_cases hlt : k < nb
    · obtain ⟨t, ht⟩ : ∃ t, bs[k]? = some t := ⟨_, List.getElem?_eq_getElem (by rw [HNB.out]; exact hlt)⟩
      obtain ⟨g, o, rfl, hg, q0⟩ := HA.out k t ht
      have q1 := (cat bl0 hg).trans q0
      have y1 : (0 : Int) ≤ (k : Int) := by omega
      have y2 : (k : Int) < (nb : Int) := by omega
      have z1 : decide ((k : Int) < (nb : Int)) = true := by simp; omega
      obtain ⟨d, hd⟩ : ∃ d, (t.toList == s.toList) = d := ⟨_, rfl⟩
      have HTS : Hid (t = s ↔ d = true) := by show _ ↔ _; rw [← hd]; exact (Lx.str_eq t s).symm
      have HT : Hid _ := ht
      clear ht q0
      cases d with
      | true =>
        go_wp2
        go_ret
        have hts : t = s := by first | exact HTS.out.2 rfl | exact HTS.out.2 trivial
        exact ⟨k, rfl, .inl ⟨k, rfl, by rw [← hts]; exact HT.out, HF.out⟩, bl0⟩
      | false =>
        have hts : t ≠ s := fun e => by have := HTS.out.1 e; cases this
        go_wp2
        go_roundw
        case rel => exact ⟨k + 1, by omega, by go_num, HF.out.step HT.out hts, by first | rfl | trivial⟩
        case measure => simp [intOf]; omega
    · obtain rfl : k = nb := by omega
      have z1 : decide ((k : Int) < (k : Int)) = false := by simp
      go_wp2
      go_ret
      exact ⟨-1, rfl, .inr ⟨rfl, NoneUp.end (by rw [HNB.out]; exact HF.out)⟩, bl0⟩

set_option maxRecDepth 100000 in
set_option maxHeartbeats 800000 in
theorem refConst_calls (cs : List Cn) (s : ByteArray) (ok : Nat → Prop) (vb : Value) (xb : Option Addr) (xn xc : Nat) (w : World) (hC : HoldsC w ok cs vb) (hlen : cs.length ≤ 1000000) :
    Calls Tryd.prog 39 #[tab (.slice xb xn xc) vb, .string s] w fun e w' => ∃ n : Int, e = .returned (.int .i64 n) ∧ Found (cs.map Cn.name) s n ∧ Below w.heap.size w w' := by
  obtain ⟨N, hN⟩ : ∃ N, w.heap.size = N := ⟨_, rfl⟩
  have hC' : HoldsC w (fun b => b < N) cs vb := hC.mono fun b hb _ => by omega
  obtain ⟨a, cap, rfl, hcap, _, hat⟩ := hC'
  have HA : Hid _ := hat
  have HN : Hid (w.heap.size = N) := hN
  obtain ⟨nb, hnb⟩ : ∃ nb, cs.length = nb := ⟨_, rfl⟩
  have HNB : Hid (cs.length = nb) := hnb
  rw [hnb] at hcap hlen ⊢
  rw [hN]
  clear hat hC hnb
  obtain ⟨w0, hw0⟩ : ∃ w0, w.alloc (.cells #[.slice xb xn xc, .slice a nb cap] 25) = w0 := ⟨_, rfl⟩
  have b0 : Blk w0 N 25 #[.slice xb xn xc, .slice a nb cap] := by rw [← hw0]; exact Blk.new' w N 25 _ hN
  have bl0 : Below N w w0 := by rw [← hw0]; exact (Below.refl N w).alloc (by omega) _
  go_enter Tryd.func39, Tryd.ntmps39
  go_wp2_with fail
  clear hw0 hN
  go_loopw [5] (fun i wr => ∃ k : Nat, k ≤ nb ∧ i = .int .i64 k ∧ Hid (NoneUp (cs.map Cn.name) s k) ∧ w0 = wr) (fun i _ => nb - (intOf i).toNat)
  case atStart => exact ⟨0, Nat.zero_le _, rfl, NoneUp.zero _ _, rfl⟩
  case round =>
    obtain ⟨k, hk, rfl, HF, rfl⟩ := hrel
    have r0 := b0.cell 1
    by_cases hlt : k < nb
    · obtain ⟨t, ht⟩ : ∃ t, cs[k]? = some t := ⟨_, List.getElem?_eq_getElem (by rw [HNB.out]; exact hlt)⟩
      obtain ⟨g, o, sx, rfl, hg, q0, _⟩ := HA.out k t ht
      have q1 := (cat bl0 hg).trans q0
      have y1 : (0 : Int) ≤ (k : Int) := by omega
      have y2 : (k : Int) < (nb : Int) := by omega
      have z1 : decide ((k : Int) < (nb : Int)) = true := by simp; omega
      obtain ⟨d, hd⟩ : ∃ d, (t.name.toList == s.toList) = d := ⟨_, rfl⟩
      have HTS : Hid (t.name = s ↔ d = true) := by show _ ↔ _; rw [← hd]; exact (Lx.str_eq t.name s).symm
      have HT : Hid ((cs.map Cn.name)[k]? = some t.name) := by show _ = _; rw [List.getElem?_map, ht]; rfl
      clear ht q0
      cases d with
      | true =>
        go_wp2
        go_ret
        have hts : t.name = s := by first | exact HTS.out.2 rfl | exact HTS.out.2 trivial
        exact ⟨k, rfl, .inl ⟨k, rfl, by rw [← hts]; exact HT.out, HF.out⟩, bl0⟩
      | false =>
        have hts : t.name ≠ s := fun e => by have := HTS.out.1 e; cases this
        go_wp2
        go_roundw
        case rel => exact ⟨k + 1, by omega, by go_num, HF.out.step HT.out hts, by first | rfl | trivial⟩
        case measure => simp [intOf]; omega
    · obtain rfl : k = nb := by omega
      have z1 : decide ((k : Int) < (k : Int)) = false := by simp
      go_wp2
      go_ret
      exact ⟨-1, rfl, .inr ⟨rfl, NoneUp.end (by rw [List.length_map, HNB.out]; exact HF.out)⟩, bl0⟩

theorem cand_step (s : ByteArray) (j : Nat) : cand s (j + 1) = s ++ ⟨(Lib.decDigits (j + 1)).toArray⟩ := by unfold cand; rw [if_neg (by omega)]
theorem cand_small {s : ByteArray} (hs : s.size ≤ 60) (k : Nat) (hk : k < 100) : (cand s k).size ≤ 100000 := by
  unfold cand
  split
  · omega
  · have := digs_small ⟨k, hk⟩
    rw [ByteArray.size_append]
    have e : (⟨(Lib.decDigits k).toArray⟩ : ByteArray).size = (Lib.decDigits k).toArray.size := rfl
    rw [e]
    simp only at this
    omega

set_option maxRecDepth 100000 in
set_option maxHeartbeats 1600000 in
theorem refFresh_calls (bs : List ByteArray) (cs : List Cn) (s : ByteArray) (hs : s.size ≤ 60) (k : Nat) (hk : k < 61) (hin : ∀ j, j < k → inB (cand s j) (names bs cs) = true) (hout : inB (cand s k) (names bs cs) = false)
    (ok : Nat → Prop) (va vb : Value) (w : World) (hS : HoldsS w ok bs va) (hC : HoldsC w ok cs vb) (hlb : bs.length ≤ 1000000) (hlc : cs.length ≤ 1000000) :
    Calls Tryd.prog 17 #[tab va vb, .string s] w fun e w' => e = .returned (if wordB s = false then .tuple #[.string ⟨#[]⟩, .int .i64 3] else if 30 < (cand s k).size then .tuple #[.string ⟨#[]⟩, .int .i64 2] else .tuple #[.string (cand s k), .int .i64 0]) ∧ Below w.heap.size w w' := by
  obtain ⟨N, hN⟩ : ∃ N, w.heap.size = N := ⟨_, rfl⟩
  obtain ⟨xa, xc, rfl, _⟩ := hS.shape
  obtain ⟨ya, yc, rfl, _⟩ := hC.shape
  obtain ⟨nb, hnb⟩ : ∃ nb, bs.length = nb := ⟨_, rfl⟩
  obtain ⟨nc, hnc⟩ : ∃ nc, cs.length = nc := ⟨_, rfl⟩
  rw [hnb] at hS ⊢
  rw [hnc] at hC ⊢
  obtain ⟨w0, hw0⟩ : ∃ w0, w.alloc (.cells #[.slice xa nb xc, .slice ya nc yc] 25) = w0 := ⟨_, rfl⟩
  have b0 : Blk w0 N 25 #[.slice xa nb xc, .slice ya nc yc] := by rw [← hw0]; exact Blk.new' w N 25 _ hN
  have bl0 : Below N w w0 := by rw [← hw0]; exact (Below.refl N w).alloc (by omega) _
  have hS0 : HoldsS w0 okT bs (.slice xa nb xc) := (by rw [← hw0]; exact hS.alloc _ : HoldsS w0 ok bs (.slice xa nb xc)).mono fun _ _ _ => trivial
  have hC0 : HoldsC w0 okT cs (.slice ya nc yc) := (by rw [← hw0]; exact hC.alloc _ : HoldsC w0 ok cs (.slice ya nc yc)).mono fun _ _ _ => trivial
  have hW := Lx.IsWord_all s (by omega) w0
  obtain ⟨res, hres⟩ : ∃ res, (if wordB s = false then Value.tuple #[.string ⟨#[]⟩, .int .i64 3] else if 30 < (cand s k).size then .tuple #[.string ⟨#[]⟩, .int .i64 2] else .tuple #[.string (cand s k), .int .i64 0]) = res := ⟨_, rfl⟩
  have HRES : Hid _ := hres
  rw [hres]
  obtain ⟨wd, hwd⟩ : ∃ wd, wordB s = wd := ⟨_, rfl⟩
  rw [hwd] at HRES
  rw [show Lx.justB s 1 = wd from hwd] at hW
  clear hS hC hres hnb hnc hwd
  rw [hN]
  have l0 := b0.lt
  go_enter Tryd.func17, Tryd.ntmps17
  go_wp2_with fail
  refine hW.mono ?_
  clear hw0
  rintro e w1 ⟨rfl, hb1⟩
  have b1 := b0.below hb1 b0.lt
  have B1 : Below N w w1 := bl0.trans (hb1.mono (by omega))
  have hS1 := hS0.bel hb1
  have hC1 := hC0.bel hb1
  clear hW hb1 b0 bl0 hS0 hC0 l0 hN
  cases wd with
  | false =>
    go_wp2
    refine bodyPost_ret (v := .tuple #[.string ⟨#[]⟩, .int .i64 3]) (by simp [results, Tryd.results17, go_sem]) rfl ⟨?_, B1⟩
    rw [← HRES.out]; rfl
  | true =>
    go_wp2_with fail
    go_loopw [6, 7] (fun sx i wr => ∃ j : Nat, j ≤ k ∧ sx = .string (cand s j) ∧ i = .int .i64 ((j : Int) + 1) ∧ Blk wr N 25 #[.slice xa nb xc, .slice ya nc yc] ∧ HoldsS wr okT bs (.slice xa nb xc) ∧ HoldsC wr okT cs (.slice ya nc yc) ∧ Below N w wr) (fun _ i _ => k + 1 - (intOf i).toNat)
    case atStart => exact ⟨0, Nat.zero_le _, rfl, rfl, b1, hS1, hC1, B1⟩
    case round =>
      clear b1 hS1 hC1 B1
      obtain ⟨j, hj, rfl, rfl, b1, hS1, hC1, B1⟩ := hrel
      have hB := refBase_calls bs (cand s j) okT (.slice xa nb xc) ya nc yc wr hS1 hlb
      have d0 := b1.cell 0
      have d1 := b1.cell 1
      have l1 := b1.lt
      have HNM := inB_names (cand s j) bs cs
      obtain ⟨db, hdb⟩ : ∃ d, inB (cand s j) bs = d := ⟨_, rfl⟩
      obtain ⟨dc, hdc⟩ : ∃ d, inB (cand s j) (cs.map Cn.name) = d := ⟨_, rfl⟩
      rw [hdb, hdc] at HNM
      have hcs := cand_small hs j (by omega)
      have HST : Hid _ := cand_step s j
      have HCJ : Hid (j = k → cand s j = cand s k) := fun e => by rw [e]
      have HIN : Hid (j < k → (db || dc) = true) := fun h => by rw [← HNM]; exact hin j h
      have HOUT : Hid (j = k → (db || dc) = false) := fun h => by rw [← HNM, h]; exact hout
      generalize cand s j = cj at *
      clear HNM
      go_wp2_with fail
      refine hB.mono ?_
      rintro e w2 ⟨n1, rfl, hf1, hb2⟩
      have z1 : decide (0 ≤ n1) = db := by rw [hf1.iff, hdb]
      have b2 := b1.below hb2 b1.lt
      have B2 : Below N w w2 := B1.trans (hb2.mono (by omega))
      have hS2 := hS1.bel hb2
      have hC2 := hC1.bel hb2
      clear hB hb2 b1 hS1 hC1 B1 d0 d1 hf1 hdb
      have d0 := b2.cell 0
      have d1 := b2.cell 1
      have l2 := b2.lt
      have hNu := fun (w : World) => Number_pos (j + 1) (by omega) w
      rw [show ((j + 1 : Nat) : Int) = (j : Int) + 1 by omega] at hNu
      have step : ∀ (w3 : World), Below N w w3 → Blk w3 N 25 #[.slice xa nb xc, .slice ya nc yc] → HoldsS w3 okT bs (.slice xa nb xc) → HoldsC w3 okT cs (.slice ya nc yc) → True := fun _ _ _ _ _ => trivial
      clear step
      cases db with
      | true =>
        have hjk : j < k := by
          rcases Nat.lt_or_ge j k with h | h
          · exact h
          · have := HOUT.out (by omega); cases this
        go_wp2_with fail
        refine (hNu _).mono ?_
        rintro e w3 ⟨rfl, hb3⟩
        have b3 := b2.below hb3 b2.lt
        have B3 : Below N w w3 := B2.trans (hb3.mono (by omega))
        have hS3 := hS2.bel hb3
        have hC3 := hC2.bel hb3
        clear hb3 b2 hS2 hC2 B2 d0 d1
        have hds := digs_small ⟨j + 1, by omega⟩
        have e1 : (⟨(Lib.decDigits (j + 1)).toArray⟩ : ByteArray).size ≤ 20000 := hds
        generalize (⟨(Lib.decDigits (j + 1)).toArray⟩ : ByteArray) = dg at *
        go_wp2
        go_roundw
        case rel => exact ⟨j + 1, by omega, by rw [HST.out], by go_num, b3, hS3, hC3, B3⟩
        case measure => simp [intOf]; omega
      | false =>
        have hCo := refConst_calls cs cj okT (.slice ya nc yc) xa nb xc w2 hC2 hlc
        go_wp2_with fail
        refine hCo.mono ?_
        rintro e w4 ⟨n2, rfl, hf2, hb4⟩
        have z2 : decide (0 ≤ n2) = dc := by rw [hf2.iff, hdc]
        have b4 := b2.below hb4 b2.lt
        have B4 : Below N w w4 := B2.trans (hb4.mono (by omega))
        have hS4 := hS2.bel hb4
        have hC4 := hC2.bel hb4
        have l4 := b4.lt
        clear hCo hb4 b2 hS2 hC2 B2 d0 d1 hf2 hdc
        cases dc with
        | true =>
          have hjk : j < k := by
            rcases Nat.lt_or_ge j k with h | h
            · exact h
            · have := HOUT.out (by omega); cases this
          go_wp2_with fail
          refine (hNu _).mono ?_
          rintro e w3 ⟨rfl, hb3⟩
          have b3 := b4.below hb3 b4.lt
          have B3 : Below N w w3 := B4.trans (hb3.mono (by omega))
          have hS3 := hS4.bel hb3
          have hC3 := hC4.bel hb3
          clear hb3 b4 hS4 hC4 B4
          have hds := digs_small ⟨j + 1, by omega⟩
          have e1 : (⟨(Lib.decDigits (j + 1)).toArray⟩ : ByteArray).size ≤ 20000 := hds
          generalize (⟨(Lib.decDigits (j + 1)).toArray⟩ : ByteArray) = dg at *
          go_wp2
          go_roundw
          case rel => exact ⟨j + 1, by omega, by rw [HST.out], by go_num, b3, hS3, hC3, B3⟩
          case measure => simp [intOf]; omega
        | false =>
          have hjk : j = k := by
            rcases Nat.lt_or_ge j k with h | h
            · have := HIN.out h; cases this
            · omega
          have hcj := HCJ.out hjk
          rw [← hcj] at HRES
          clear hcj hjk HCJ
          by_cases h30 : 30 < cj.size
          · have z5 : decide ((30 : Int) < (cj.size : Int)) = true := by simp; omega
            have z6 : decide (30 < cj.size) = true := by simp; omega
            have HR2 : Hid (res = .tuple #[.string ⟨#[]⟩, .int .i64 2]) := by show _ = _; rw [← HRES.out, if_neg (by simp), if_pos h30]
            clear HRES
            go_wp2
            refine bodyPost_ret (v := .tuple #[.string ⟨#[]⟩, .int .i64 2]) (by simp [results, Tryd.results17, go_sem]) rfl ⟨by rw [HR2.out], B4⟩
          · have z5 : decide ((30 : Int) < (cj.size : Int)) = false := by simp; omega
            have z6 : decide (30 < cj.size) = false := by simp; omega
            have HR2 : Hid (res = .tuple #[.string cj, .int .i64 0]) := by show _ = _; rw [← HRES.out, if_neg (by simp), if_neg h30]
            clear HRES
            go_wp2
            refine bodyPost_ret (v := .tuple #[.string cj, .int .i64 0]) (by simp [results, Tryd.results17, go_sem]) rfl ⟨by rw [HR2.out], B4⟩

end Go.Proofs.YtdihplmlbfggjaaDoor
