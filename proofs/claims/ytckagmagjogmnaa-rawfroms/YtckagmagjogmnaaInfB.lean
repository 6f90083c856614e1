/-
  InfB: several texts in one file: InfA, InfB.
-/
import Derived.Test.YtckagmagjogmnaaInfP
import Derived.Test.YtckagmagjogmnaaStk
import Derived.Test.YtckagmagjogmnaaArrR
import Derived.Test.YtckagmagjogmnaaHdTy
import Derived.Test.YtckagmagjogmnaaRight
import Derived.Test.YtckagmagjogmnaaRightR
import Derived.Test.YtckagmagjogmnaaLooseR
import Derived.Test.YtckagmagjogmnaaToR
import Derived.Test.YtckagmagjogmnaaCloneT
import Derived.Deep.RegionHeld3
import Derived.Deep.DeepCutAuto
import Derived.Deep.QuietTactic
import Derived.BigQuiet
import Derived.Lib.QuietBelow
import Derived.WalkSmall
namespace Go.Proofs.Ytckagmagjogmnaa
open Go Go.RowKit

theorem Stk.only {w w' : World} {N C : Nat} {bs : Int} {cv mv xv : Value} {ps : List (Value × Ty)} {S : List Nat} (h : Stk w N C bs cv mv xv ps) (hk : Only S w w') (hC : C ∉ S) (hx : ∀ b, xv.ownBlock = some b → b ∉ S) (hS : ∀ k ∈ S, N ≤ k) : Stk w' N C bs cv mv xv ps :=
  ⟨h.box.only hk hC, row_onlyS h.row hk hx, fun p hp => (h.kid p hp).keep fun b hb ho => ⟨hk.block b hb (fun hm => by have := hS b hm; omega), ho⟩, h.low⟩
theorem Stk.bel {w w' : World} {N C : Nat} {bs : Int} {cv mv xv : Value} {ps : List (Value × Ty)} (h : Stk w N C bs cv mv xv ps) (hb : Below w.heap.size w w') : Stk w' N C bs cv mv xv ps :=
  h.only (S := []) (Only.of_below' hb) (by simp) (by simp) (by simp)
theorem Stk.lt {w : World} {N C : Nat} {bs : Int} {cv mv xv : Value} {ps : List (Value × Ty)} (h : Stk w N C bs cv mv xv ps) : ∀ k ∈ turns C xv, k < w.heap.size := fun k hk => by
  rcases turns_mem.1 hk with rfl | e
  · exact h.box.lt
  · exact (h.row.lt k e).2
theorem Stk.ge {w : World} {N C : Nat} {bs : Int} {cv mv xv : Value} {ps : List (Value × Ty)} (h : Stk w N C bs cv mv xv ps) : ∀ k ∈ turns C xv, N ≤ k := fun k hk => by
  rcases turns_mem.1 hk with rfl | e
  · exact h.low
  · exact (h.row.lt k e).1

/-- What find, of, lam, app tell: a type in new memory and 0, or an error's number. -/
def FindP (p : Int × Ty) (N C : Nat) (bs : Int) (cv mv xv : Value) (ps : List (Value × Ty)) (w : World) (e : Ending) (w' : World) : Prop :=
  ∃ a n c, e = .returned (.tuple #[tv (.slice a n c) p.2.base, .int .i64 p.1]) ∧ Only (turns C xv) w w' ∧ (p.1 = 0 → ∃ xv', Stk w' N C bs cv mv xv' ps ∧ (∀ b, xv'.ownBlock = some b → xv.ownBlock = some b ∨ w.heap.size ≤ b) ∧ Holds w' (fun b => w.heap.size ≤ b ∧ xv'.ownBlock ≠ some b) p.2.args (.slice a n c)) ∧
    (p.1 ≠ 0 → p.2 = zT ∧ (.slice a n c : Value) = .slice none 0 0)
def FindAt (F : Nat) (cs ms : List Ty) (res : List Ty → Int → Int × Ty) (r : Rw) : Prop := ∀ (N C : Nat) (ps : List (Value × Ty)) (bs : Int) (cv mv xv sb sr : Value) (w : World),
    Holds w (fun b => b < N) cs cv → Holds w (fun b => b < N) ms mv → Holds w (fun b => b < N) r.ty.args sb → HoldsR w (fun b => b < N) r.kids sr → Stk w N C bs cv mv xv ps → (∀ p ∈ ps, p.2.size ≤ 1000) → ps.length + r.depth ≤ 900 →
    Calls Try.prog F #[.pointer (some ⟨C, 0, none⟩), rwv r.kind sb r.ty.base r.idx sr] w (FindP (res (ps.map (·.2)) bs) N C bs cv mv xv ps w)

set_option maxRecDepth 100000 in
set_option maxHeartbeats 1600000 in
theorem find_calls' (cs ms : List Ty) (r : Rw) (hsz : ∀ ctx bs, (∀ u ∈ ctx, u.size ≤ 1000) → (r.ofI bs cs ms ctx).2.size ≤ 900000) (hO : FindAt 74 cs ms (fun ctx bs => r.ofI bs cs ms ctx) r) : FindAt 54 cs ms (fun ctx bs => r.inf bs cs ms ctx) r := by
  intro N C ps bs cv mv xv sb sr w hc hm hb hr hst hps hlen
  have hofz := hsz (ps.map (·.2)) bs (fun u hu => by obtain ⟨p, hp, rfl⟩ := List.mem_map.1 hu; exact hps p hp)
  have hie := r.inf_eq bs cs ms (ps.map (·.2))
  have hT := hst.lt
  have hG := hst.ge
  obtain ⟨x1, x2, hx, _⟩ := hb.shape
  obtain ⟨x3, x4, hx', _⟩ := hr.shape
  generalize r.ty.args.length = n1 at hx
  generalize r.kids.length = n2 at hx'
  subst hx hx'
  obtain ⟨H, hH⟩ : ∃ H, w.heap.size = H := ⟨_, rfl⟩
  rw [hH] at hT
  obtain ⟨W0, hW0⟩ : ∃ W0, (w.alloc (.cells #[.int .i64 r.kind, .slice x1 n1 x2, .int .i64 r.ty.base, .int .i64 r.idx, .slice x3 n2 x4] 35)).alloc (.cells #[.slice none 0 0, .int .i64 0] 32) = W0 := ⟨_, rfl⟩
  have b0 : Blk W0 H 35 #[.int .i64 r.kind, .slice x1 n1 x2, .int .i64 r.ty.base, .int .i64 r.idx, .slice x3 n2 x4] := by rw [← hW0]; exact (Blk.new' w H 35 _ hH).alloc _
  have b1 : Blk W0 (H + 1) 32 #[.slice none 0 0, .int .i64 0] := by rw [← hW0]; exact Blk.new' _ (H + 1) 32 _ (by simp [hH])
  have bl : Below H w W0 := by rw [← hW0]; exact ((Below.refl H w).alloc (by omega) _).alloc (by simp; omega) _
  have hz : W0.heap.size = H + 2 := by rw [← hW0]; simp [hH]
  have hb' : Below w.heap.size w W0 := hH ▸ bl
  have hcall := hO N C ps bs cv mv xv _ _ W0 (hc.bel hb') (hm.bel hb') (hb.bel hb') (hr.bel hb') (hst.bel hb') hps hlen
  have hO0 : Only (turns C xv) w W0 := Only.of_below' hb'
  obtain ⟨p, hp⟩ : ∃ p, r.ofI bs cs ms (ps.map (·.2)) = p := ⟨_, rfl⟩
  have hN1 : H + 1 ∉ turns C xv := fun h => by have := hT _ h; omega
  have HW : Hid _ := hW0
  have HI : Hid (r.inf bs cs ms (ps.map (·.2)) = finI p) := by show _ = _; rw [hie, hp]
  simp only [hp] at hcall hofz
  have c0 := b0.cell 0
  have c1 := b0.cell 1
  have c2 := b0.cell 2
  have c3 := b0.cell 3
  have c4 := b0.cell 4
  have HC : Hid (C ∈ turns C xv) := turns_mem.2 (.inl rfl)
  have hCH : C < H := hT C HC.out
  obtain ⟨pc, pt⟩ := p
  simp only at hcall hofz
  clear hW0 hc hm hb hr hst hO hie hp hps hsz
  go_enter Try.func54, Try.ntmps54
  go_upto_region 1 with fail
  rw [HW.out]
  clear HW
  go_wp2_with fail
  refine hcall.mono ?_
  unfold FindP
  rintro e w1 ⟨a, n, c, rfl, hO1, hyes, hno⟩
  have m1 := b1.only hO1 hN1
  have hO2 : Only (turns C xv) w w1 := hO0.trans hO1
  have hs1 := hO1.size
  obtain ⟨X, hX⟩ : ∃ X, w1.heap.size = X := ⟨_, rfl⟩
  have hXH : H + 1 < X := by rw [← hX]; exact m1.lt
  obtain ⟨W2, hW2⟩ : ∃ W2, w1.alloc (.cells #[.slice a n c, .int .i64 pt.base] 32) = W2 := ⟨_, rfl⟩
  have d0 : Blk W2 X 32 #[.slice a n c, .int .i64 pt.base] := by rw [← hW2]; exact Blk.new' w1 X 32 _ hX
  have d1 : Blk W2 (H + 1) 32 #[.slice none 0 0, .int .i64 0] := by rw [← hW2]; exact m1.alloc _
  have hba : Below w1.heap.size w1 W2 := by rw [← hW2]; exact (Below.refl _ _).alloc (Nat.le_refl _) _
  have hO3 : Only (turns C xv) w W2 := hO2.trans (Only.of_below' hba)
  have HY : Hid _ := hyes
  have HN : Hid _ := hno
  have HW2 : Hid _ := hW2
  clear hcall c0 c1 c2 c3 c4 hyes hno b0 b1 m1 hW2 hO0 hO1
  go_upto_region 2 with fail
  rw [HW2.out]
  clear HW2
  by_cases h0 : pc = 0
  · subst h0
    obtain ⟨xv', hst, hown, hh⟩ := HY.out rfl
    have hh2 := hh.bel hba
    have hst2 := hst.bel hba
    have d0c := d0.cell 0
    have d1c := d0.cell 1
    have ksz := kSize_calls pt _ _ W2 hh2 hofz
    obtain ⟨sz, hsz⟩ : ∃ s, pt.size = s := ⟨_, rfl⟩
    rw [hsz] at ksz
    clear hh hst
    go_wp2_with fail
    refine ksz.mono ?_
    rintro e w3 ⟨rfl, hb3⟩
    have n0 := d0.below hb3 d0.lt
    have n1' := d1.below hb3 d1.lt
    have hh3 := hh2.bel hb3
    have hst3 := hst2.bel hb3
    have hO4 : Only (turns C xv) w w3 := hO3.trans (Only.of_below' hb3)
    have hs3 := hb3.size
    have hs2 := hba.size
    clear ksz d0c d1c d0 d1 hh2 hst2 hO3
    by_cases hle : sz ≤ 1000
    · have z1 : decide ((sz : Int) > 1000) = false := by simp; omega
      have z2 : decide (1000 < (sz : Int)) = false := by simp; omega
      have HF : Hid (finI (0, pt) = (0, pt)) := by show _ = _; unfold finI; rw [if_pos rfl, if_pos (by show pt.size ≤ 1000; omega)]
      have d0c := n0.cell 0
      have d1c := n0.cell 1
      clear hle
      have e0 := n1'.cell 0
      have e1 := n1'.cell 1
      have f0 := n1'.frozen 0
      have f1 := n1'.frozen 1
      have b5 := (n1'.set 0 (.slice a n c)).set 1 (.int .i64 pt.base)
      have o5 : Only [H + 1] w3 ((w3.setCell ⟨H + 1, 0, none⟩ (.slice a n c)).setCell ⟨H + 1, 1, none⟩ (.int .i64 pt.base)) := ((Only.refl _ _).set (by simp) 0 _).set (by simp) 1 _
      go_wp2
      generalize (w3.setCell ⟨H + 1, 0, none⟩ (.slice a n c)).setCell ⟨H + 1, 1, none⟩ (.int .i64 pt.base) = W5 at *
      have g0 : W5.cell? ⟨H + 1, 0, none⟩ = some (.slice a n c) := b5.cell 0
      have g1 : W5.cell? ⟨H + 1, 1, none⟩ = some (.int .i64 pt.base) := b5.cell 1
      exact bodyPost_ret (v := .tuple #[tv (.slice a n c) pt.base, .int .i64 0]) (by simp [results, Try.results54, go_sem, g0, g1]) rfl (by unfold FindP; rw [HI.out, HF.out]; exact ⟨a, n, c, rfl, hO4.then o5 (fun x hx hlt => by rw [List.mem_singleton.1 hx, hH] at hlt; omega), fun _ => ⟨xv', hst3.only o5 (by simp; omega) (fun b hb hm => by rw [List.mem_singleton.1 hm] at hb; exact (hown _ hb).elim (fun h => by have := hT _ (turns_mem.2 (.inr h)); omega) (fun h => by omega)) (fun k hk => by rw [List.mem_singleton.1 hk]; have := hG C HC.out; omega), fun b hb => (hown b hb).imp id (fun h => by omega), hh3.keep fun b hb ho => ⟨o5.block b hb (by simp; omega), by omega, ho.2⟩⟩, fun h => absurd rfl h⟩)
    · have z1 : decide ((sz : Int) > 1000) = true := by simp; omega
      have z2 : decide (1000 < (sz : Int)) = true := by simp; omega
      have HF : Hid (finI (0, pt) = (2, zT)) := by show _ = _; unfold finI; rw [if_pos rfl, if_neg (by show ¬ pt.size ≤ 1000; omega)]
      clear hle
      have e0 := n1'.cell 0
      have e1 := n1'.cell 1
      have f0 := n1'.frozen 0
      have f1 := n1'.frozen 1
      have b5 := (n1'.set 0 (.slice none 0 0)).set 1 (.int .i64 0)
      have o5 : Only [H + 1] w3 ((w3.setCell ⟨H + 1, 0, none⟩ (.slice none 0 0)).setCell ⟨H + 1, 1, none⟩ (.int .i64 0)) := ((Only.refl _ _).set (by simp) 0 _).set (by simp) 1 _
      go_wp2
      generalize (w3.setCell ⟨H + 1, 0, none⟩ (.slice none 0 0)).setCell ⟨H + 1, 1, none⟩ (.int .i64 0) = W5 at *
      have g0 : W5.cell? ⟨H + 1, 0, none⟩ = some (.slice none 0 0) := b5.cell 0
      have g1 : W5.cell? ⟨H + 1, 1, none⟩ = some (.int .i64 0) := b5.cell 1
      exact bodyPost_ret (v := .tuple #[tv (.slice none 0 0) 0, .int .i64 2]) (by simp [results, Try.results54, go_sem, g0, g1]) rfl (by unfold FindP; rw [HI.out, HF.out]; exact ⟨none, 0, 0, rfl, hO4.then o5 (fun x hx hlt => by rw [List.mem_singleton.1 hx, hH] at hlt; omega), fun h => absurd h (by decide), fun _ => ⟨rfl, rfl⟩⟩)
  · have z0 : (pc == 0) = false := by simp [h0]
    have z9 : (pc != 0) = true := by simp [h0]
    have HF : Hid (finI (pc, pt) = (pc, zT)) := by show _ = _; unfold finI; rw [if_neg (by exact h0)]
    have H0 : Hid (pc ≠ 0) := h0
    clear h0
    have e0 := d1.cell 0
    have e1 := d1.cell 1
    have f0 := d1.frozen 0
    have f1 := d1.frozen 1
    have b5 := (d1.set 0 (.slice none 0 0)).set 1 (.int .i64 0)
    have o5 : Only [H + 1] W2 ((W2.setCell ⟨H + 1, 0, none⟩ (.slice none 0 0)).setCell ⟨H + 1, 1, none⟩ (.int .i64 0)) := ((Only.refl _ _).set (by simp) 0 _).set (by simp) 1 _
    go_wp2
    generalize (W2.setCell ⟨H + 1, 0, none⟩ (.slice none 0 0)).setCell ⟨H + 1, 1, none⟩ (.int .i64 0) = W5 at *
    have g0 : W5.cell? ⟨H + 1, 0, none⟩ = some (.slice none 0 0) := b5.cell 0
    have g1 : W5.cell? ⟨H + 1, 1, none⟩ = some (.int .i64 0) := b5.cell 1
    exact bodyPost_ret (v := .tuple #[tv (.slice none 0 0) 0, .int .i64 pc]) (by simp [results, Try.results54, go_sem, g0, g1]) rfl (by unfold FindP; rw [HI.out, HF.out]; exact ⟨none, 0, 0, rfl, hO3.then o5 (fun x hx hlt => by rw [List.mem_singleton.1 hx, hH] at hlt; omega), fun h => absurd h H0.out, fun _ => ⟨rfl, rfl⟩⟩)

end Go.Proofs.Ytckagmagjogmnaa

namespace Go.Proofs.Ytckagmagjogmnaa
open Go Go.RowKit Go.Sort

set_option maxRecDepth 100000 in
set_option maxHeartbeats 1600000 in
theorem app_calls (cs ms : List Ty) (f a : Rw) (hF : FindAt 54 cs ms (fun ctx bs => f.inf bs cs ms ctx) f) (hA : FindAt 54 cs ms (fun ctx bs => a.inf bs cs ms ctx) a) (N C : Nat) (ps : List (Value × Ty)) (bs : Int) (cv mv xv sb sr sb' sr' : Value) (w : World)
    (hc : Holds w (fun b => b < N) cs cv) (hm : Holds w (fun b => b < N) ms mv) (hb : Holds w (fun b => b < N) f.ty.args sb) (hr : HoldsR w (fun b => b < N) f.kids sr) (hb' : Holds w (fun b => b < N) a.ty.args sb') (hr' : HoldsR w (fun b => b < N) a.kids sr') (hst : Stk w N C bs cv mv xv ps) (hps : ∀ p ∈ ps, p.2.size ≤ 1000) (hlen : ps.length + f.depth ≤ 900) (hlen' : ps.length + a.depth ≤ 900) :
    Calls Try.prog 93 #[.pointer (some ⟨C, 0, none⟩), rwv f.kind sb f.ty.base f.idx sr, rwv a.kind sb' a.ty.base a.idx sr'] w (FindP (appI [f.inf bs cs ms (ps.map (·.2)), a.inf bs cs ms (ps.map (·.2))]) N C bs cv mv xv ps w) := by
  have hs1 := f.inf_size bs cs ms (ps.map (·.2))
  have hs2 := a.inf_size bs cs ms (ps.map (·.2))
  have hT := hst.lt
  have hG := hst.ge
  have hNC := hst.low
  obtain ⟨x1, x2, hx, _⟩ := hb.shape
  obtain ⟨x3, x4, hx', _⟩ := hr.shape
  obtain ⟨y1, y2, hy, _⟩ := hb'.shape
  obtain ⟨y3, y4, hy', _⟩ := hr'.shape
  generalize f.ty.args.length = n1 at hx
  generalize f.kids.length = n2 at hx'
  generalize a.ty.args.length = n3 at hy
  generalize a.kids.length = n4 at hy'
  subst hx hx' hy hy'
  obtain ⟨H, hH⟩ : ∃ H, w.heap.size = H := ⟨_, rfl⟩
  rw [hH] at hT
  obtain ⟨W0, hW0⟩ : ∃ W0, ((w.alloc (.cells #[.int .i64 f.kind, .slice x1 n1 x2, .int .i64 f.ty.base, .int .i64 f.idx, .slice x3 n2 x4] 35)).alloc (.cells #[.int .i64 a.kind, .slice y1 n3 y2, .int .i64 a.ty.base, .int .i64 a.idx, .slice y3 n4 y4] 35)).alloc (.cells #[.slice none 0 0, .int .i64 0] 32) = W0 := ⟨_, rfl⟩
  have b0 : Blk W0 H 35 #[.int .i64 f.kind, .slice x1 n1 x2, .int .i64 f.ty.base, .int .i64 f.idx, .slice x3 n2 x4] := by rw [← hW0]; exact ((Blk.new' w H 35 _ hH).alloc _).alloc _
  have b1 : Blk W0 (H + 1) 35 #[.int .i64 a.kind, .slice y1 n3 y2, .int .i64 a.ty.base, .int .i64 a.idx, .slice y3 n4 y4] := by rw [← hW0]; exact (Blk.new' _ (H + 1) 35 _ (by simp [hH])).alloc _
  have b2 : Blk W0 (H + 1 + 1) 32 #[.slice none 0 0, .int .i64 0] := by rw [← hW0]; exact Blk.new' _ (H + 1 + 1) 32 _ (by simp [hH])
  have bl : Below H w W0 := by rw [← hW0]; exact (((Below.refl H w).alloc (by omega) _).alloc (by simp; omega) _).alloc (by simp; omega) _
  have hz : W0.heap.size = H + 1 + 1 + 1 := by rw [← hW0]; simp [hH]
  have hbw : Below w.heap.size w W0 := hH ▸ bl
  have hcall := hF N C ps bs cv mv xv _ _ W0 (hc.bel hbw) (hm.bel hbw) (hb.bel hbw) (hr.bel hbw) (hst.bel hbw) hps hlen
  have hO0 : Only (turns C xv) w W0 := Only.of_below' hbw
  obtain ⟨p1, hp1⟩ : ∃ p, f.inf bs cs ms (ps.map (·.2)) = p := ⟨_, rfl⟩
  obtain ⟨p2, hp2⟩ : ∃ p, a.inf bs cs ms (ps.map (·.2)) = p := ⟨_, rfl⟩
  have HW : Hid _ := hW0
  have HA2 : Hid (a.inf bs cs ms (ps.map (·.2)) = p2) := hp2
  rw [hp1] at hs1 ⊢
  rw [hp2] at hs2 ⊢
  simp only [hp1] at hcall
  have HCT : Hid (C ∈ turns C xv) := turns_mem.2 (.inl rfl)
  have hCH : C < H := hT C HCT.out
  obtain ⟨q1, t1⟩ := p1
  obtain ⟨q2, t2⟩ := p2
  simp only at hcall hs1 hs2
  obtain ⟨P, hP⟩ : ∃ P, appI [(q1, t1), (q2, t2)] = P := ⟨_, rfl⟩
  have HP : Hid (appI [(q1, t1), (q2, t2)] = P) := hP
  rw [hP]
  have c0 := b0.cell 0
  have c1 := b0.cell 1
  have c2 := b0.cell 2
  have c3 := b0.cell 3
  have c4 := b0.cell 4
  have HH : Hid (w.heap.size = H) := hH
  have hno2 : ∀ k, H ≤ k → k ∉ turns C xv := fun k hk h => by have := hT _ h; omega
  have HIA : Hid _ := hA
  clear hW0 hF hp1 hp2 hP hb hr hA
  go_enter Try.func93, Try.ntmps93
  go_upto_region 1 with fail
  rw [HW.out]
  clear HW
  go_wp2_with fail
  refine hcall.mono ?_
  unfold FindP
  rintro e w1 ⟨a1, m1, e1, rfl, hO1, hyes, hno⟩
  have HY : Hid _ := hyes
  have HN : Hid _ := hno
  have hO2 : Only (turns C xv) w w1 := hO0.trans hO1
  obtain ⟨X, hX⟩ : ∃ X, w1.heap.size = X := ⟨_, rfl⟩
  have k1 := b1.only hO1 (hno2 _ (by omega))
  have k2 := b2.only hO1 (hno2 _ (by omega))
  have hXH : H + 1 + 1 < X := by rw [← hX]; exact k2.lt
  obtain ⟨W2, hW2⟩ : ∃ W2, w1.alloc (.cells #[.slice a1 m1 e1, .int .i64 t1.base] 32) = W2 := ⟨_, rfl⟩
  have d0 : Blk W2 X 32 #[.slice a1 m1 e1, .int .i64 t1.base] := by rw [← hW2]; exact Blk.new' w1 X 32 _ hX
  have hba : Below w1.heap.size w1 W2 := by rw [← hW2]; exact (Below.refl _ _).alloc (Nat.le_refl _) _
  have d1 := k1.below hba k1.lt
  have d2 := k2.below hba k2.lt
  have hz2 : W2.heap.size = X + 1 := by rw [← hW2]; simp [hX]
  have hO3 : Only (turns C xv) w W2 := hO2.trans (Only.of_below' hba)
  have HW2 : Hid _ := hW2
  clear hcall c0 c1 c2 c3 c4 hyes hno b0 b1 b2 k1 k2 hW2 hO0 hO1 hO2
  go_upto_region 2 with fail
  rw [HW2.out]
  clear HW2
  by_cases h0 : q1 = 0
  · subst h0
    obtain ⟨xv1, hst1, hown1, hh1⟩ := HY.out rfl
    have hh2 := hh1.bel hba
    have hst2 := hst1.bel hba
    have hkp : ∀ b, b < w.heap.size → b < N → W2.heap[b]? = w.heap[b]? ∧ b < N := fun b hl hn => ⟨hO3.block b hl (fun h => by have := hG b h; omega), hn⟩
    have hcall2 := HIA.out N C ps bs cv mv xv1 _ _ W2 (hc.keep hkp) (hm.keep hkp) (hb'.keep hkp) (hr'.keep hkp) hst2 hps hlen'
    simp only [HA2.out] at hcall2
    have hT1 : ∀ k ∈ turns C xv1, k < X := fun k hk => by have := hst1.lt k hk; omega
    have hB1 : ∀ k ∈ turns C xv1, k ∈ turns C xv ∨ H + 1 + 1 + 1 ≤ k := fun k hk => by
      rcases turns_mem.1 hk with rfl | h
      · exact .inl HCT.out
      · exact (hown1 k h).imp (fun h => turns_mem.2 (.inr h)) (fun h => by omega)
    have hno3 : ∀ k, k ∈ turns C xv1 → k ≠ H + 1 + 1 ∧ k ≠ H + 1 ∧ k ≠ X := fun k hk => ⟨fun e => by rcases hB1 k hk with h | h; exact hno2 _ (by omega) h; omega, fun e => by rcases hB1 k hk with h | h; exact hno2 _ (by omega) h; omega, fun e => by have := hT1 k hk; omega⟩
    have c0 := d1.cell 0
    have c1 := d1.cell 1
    have c2 := d1.cell 2
    have c3 := d1.cell 3
    have c4 := d1.cell 4
    clear hh1 hst1 hst2 hkp hc hm hb' hr' hst HIA
    go_wp2_with fail
    refine hcall2.mono ?_
    unfold FindP
    rintro e w3 ⟨a2, m2, e2, rfl, hO4, hyes, hno⟩
    have HY2 : Hid _ := hyes
    have r0 := d0.only hO4 (fun h => (hno3 _ h).2.2 rfl)
    have r2 := d2.only hO4 (fun h => (hno3 _ h).1 rfl)
    have hhf : Holds w3 (fun b => H ≤ b) t1.args (.slice a1 m1 e1) := hh2.keep fun b hb ho => ⟨hO4.block b hb (fun h => (turns_mem.1 h).elim (fun e9 => by have := ho.1; omega) (fun e9 => ho.2 e9)), by have := ho.1; omega⟩
    have hO5 : Only (turns C xv) w w3 := hO3.then hO4 (fun k hk hl => (hB1 k hk).elim id (fun h => by rw [HH.out] at hl; omega))
    obtain ⟨Y, hY⟩ : ∃ Y, w3.heap.size = Y := ⟨_, rfl⟩
    have hYX : X < Y := by rw [← hY]; exact r0.lt
    obtain ⟨W4, hW4⟩ : ∃ W4, w3.alloc (.cells #[.slice a2 m2 e2, .int .i64 t2.base] 32) = W4 := ⟨_, rfl⟩
    have s1 : Blk W4 Y 32 #[.slice a2 m2 e2, .int .i64 t2.base] := by rw [← hW4]; exact Blk.new' w3 Y 32 _ hY
    have hbb : Below w3.heap.size w3 W4 := by rw [← hW4]; exact (Below.refl _ _).alloc (Nat.le_refl _) _
    have s0 := r0.below hbb r0.lt
    have s2 := r2.below hbb r2.lt
    have hz4 : W4.heap.size = Y + 1 := by rw [← hW4]; simp [hY]
    have hO6 : Only (turns C xv) w W4 := hO5.trans (Only.of_below' hbb)
    have hhf4 := hhf.bel hbb
    have HW4 : Hid _ := hW4
    clear hcall2 c0 c1 c2 c3 c4 hyes hno hW4 r0 r2 d0 d1 d2 hhf hO4 hO5 hh2
    go_upto_region 5 with fail
    rw [HW4.out]
    clear HW4
    by_cases h2 : q2 = 0
    · subst h2
      obtain ⟨xv2, hst5, hown2, hh5⟩ := HY2.out rfl
      have hh6 := hh5.bel hbb
      have hst6 := hst5.bel hbb
      have hT5 : ∀ b, xv2.ownBlock = some b → b < Y := fun b h => by have := (hst5.row.lt b h).2; omega
      have hown : ∀ b, xv2.ownBlock = some b → xv.ownBlock = some b ∨ H + 1 + 1 + 1 ≤ b := fun b h => by
        rcases hown2 b h with h | h
        · exact (hown1 b h).imp id (fun h => by omega)
        · exact .inr (by omega)
      have d0c := s0.cell 0
      have d1c := s0.cell 1
      clear hh5 hst5 HY2 HY hown2
      cases hta : t1.args with
      | nil =>
        have HP5 : Hid (P = (5, zT)) := by show _ = _; rw [← HP.out]; show appT t1 t2 = _; unfold appT; rw [hta]
        have krest := Rest_no t1 1 _ _ W4 hhf4 (.inr (by rw [hta]; decide))
        clear hta hhf4 hh6
        go_wp2_with fail
        refine krest.mono ?_
        rintro e w5 ⟨rfl, hb5⟩
        have u2 := s2.below hb5 s2.lt
        have hO7 : Only (turns C xv) w w5 := hO6.trans (Only.of_below' hb5)
        obtain ⟨W6, hW6⟩ : ∃ W6, w5.alloc (.cells #[.slice none 0 0, .int .i64 0] 32) = W6 := ⟨_, rfl⟩
        have v2 : Blk W6 (H + 1 + 1) 32 #[.slice none 0 0, .int .i64 0] := by rw [← hW6]; exact u2.alloc _
        have hO8 : Only (turns C xv) w W6 := by rw [← hW6]; exact hO7.alloc _
        have HW6 : Hid _ := hW6
        clear krest d0c d1c s0 s1 s2 u2 hW6 hst6 hb5 hO7
        go_upto_region 8 with fail
        rw [HW6.out]
        clear HW6
        go_wp2_with fail
        go_quiet (fail)
        have v3 : Blk (W6.drewN nq) (H + 1 + 1) 32 #[.slice none 0 0, .int .i64 0] := v2.below (below_drewN (Below.refl _ W6) nq) v2.lt
        have hO9 : Only (turns C xv) w (W6.drewN nq) := hO8.trans (Only.of_below' (below_drewN (Below.refl _ W6) nq))
        obtain ⟨W7, hW7⟩ : ∃ W7, W6.drewN nq = W7 := ⟨_, rfl⟩
        rw [hW7] at v3 hO9
        have HW7 : Hid _ := hW7
        clear v2 hO8 hW7
        go_upto_region 9 with fail
        rw [HW7.out]
        clear HW7
        have e0 := v3.cell 0
        have e1 := v3.cell 1
        have f0 := v3.frozen 0
        have f1 := v3.frozen 1
        have b5 := (v3.set 0 (.slice none 0 0)).set 1 (.int .i64 0)
        have o5 : Only [H + 1 + 1] W7 ((W7.setCell ⟨H + 1 + 1, 0, none⟩ (.slice none 0 0)).setCell ⟨H + 1 + 1, 1, none⟩ (.int .i64 0)) := ((Only.refl _ _).set (by simp) 0 _).set (by simp) 1 _
        go_wp2
        generalize (W7.setCell ⟨H + 1 + 1, 0, none⟩ (.slice none 0 0)).setCell ⟨H + 1 + 1, 1, none⟩ (.int .i64 0) = W5 at *
        have g0 : W5.cell? ⟨H + 1 + 1, 0, none⟩ = some (.slice none 0 0) := b5.cell 0
        have g1 : W5.cell? ⟨H + 1 + 1, 1, none⟩ = some (.int .i64 0) := b5.cell 1
        exact bodyPost_ret (v := .tuple #[tv (.slice none 0 0) 0, .int .i64 5]) (by simp [results, Try.results93, go_sem, g0, g1]) rfl (by unfold FindP; rw [HP5.out]; exact ⟨none, 0, 0, rfl, hO9.then o5 (fun x hx hlt => by rw [List.mem_singleton.1 hx, HH.out] at hlt; omega), fun h => absurd h (by decide), fun _ => ⟨rfl, rfl⟩⟩)
      | cons x rest =>
        have krest : Calls Try.prog 104 #[tv (.slice a1 m1 e1) t1.base, .int .i64 1] W4 _ := Rest_yes t1 1 _ _ W4 hhf4 (by rw [hta]; simp) (by omega)
        have HTA : Hid (t1.args = x :: rest) := hta
        have hxz : x.size ≤ 1000000 := by have h1 := t1.size_eq; rw [hta] at h1; simp only [sizeL] at h1; omega
        have hfa := hhf4
        rw [hta] at hfa
        obtain ⟨a9, c9, e9, _, hat⟩ := hfa.shape
        cases e9
        obtain ⟨g, o, s, rfl, hgo, hg, i0, i1, hs⟩ := hat 0 x rfl
        rw [show o + 0 * 2 = o by omega] at i0 i1
        have heq := fun cur (h : Below W4.heap.size W4 cur) => Equal_calls x hxz t2 okT s (.slice a2 m2 e2) cur ((hs.bel h).mono fun _ _ _ => trivial) ((hh6.bel h).mono fun _ _ _ => trivial)
        obtain ⟨q, hq⟩ : ∃ q, x.same t2 = q := ⟨_, rfl⟩
        have HQ : Hid (x.same t2 = q) := hq
        simp only [hq] at heq
        have HEQ : Hid _ := heq
        obtain ⟨sa, sc, hss, _⟩ := hs.shape
        obtain ⟨sn, hsn⟩ : ∃ n, x.args.length = n := ⟨_, rfl⟩
        rw [hsn] at hss
        subst hss
        have y1 : (0 : Int) < ((x :: rest).length : Int) := by simp
        have hm1 : (x :: rest).length = rest.length + 1 := rfl
        have y2 : (0 : Int) < ((rest.length + 1 : Nat) : Int) := by omega
        clear hta hfa hat hhf4 heq hq
        go_wp2_with fail
        refine krest.mono ?_
        rintro e w5 ⟨v5, rfl, hv5, hb5⟩
        obtain ⟨va, vc, hvs, _⟩ := hv5.shape
        have hdr : t1.args.drop 1 = rest := by rw [HTA.out]; rfl
        rw [hdr] at hv5 hvs
        obtain ⟨vn, hvn⟩ : ∃ n, rest.length = n := ⟨_, rfl⟩
        rw [hvn] at hvs
        subst hvs
        obtain ⟨Zb, hZb⟩ : ∃ Z, w5.heap.size = Z := ⟨_, rfl⟩
        have hZX : Y + 1 ≤ Zb := by have := hb5.size; omega
        obtain ⟨W6, hW6⟩ : ∃ W6, w5.alloc (.cells #[.slice va vn vc, .int .i64 t1.base] 32) = W6 := ⟨_, rfl⟩
        have hbx : Below W4.heap.size W4 W6 := by rw [← hW6]; exact hb5.alloc hb5.size _
        have v2 := s2.below hbx s2.lt
        have u0 := s0.below hbx s0.lt
        have u1 := s1.below hbx s1.lt
        have u3 : Blk W6 Zb 32 #[.slice va vn vc, .int .i64 t1.base] := by rw [← hW6]; exact Blk.new' w5 Zb 32 _ hZb
        have hv6 : Holds W6 (fun b => W4.heap.size ≤ b) rest (.slice va vn vc) := by rw [← hW6]; exact hv5.alloc _
        have hst7 := hst6.bel hbx
        have hO8 : Only (turns C xv) w W6 := hO6.trans (Only.of_below' hbx)
        have i0' := (cat hbx hg).trans i0
        have i1' := (cat hbx hg).trans i1
        have hz6 := hbx.size
        have HW6 : Hid _ := hW6
        clear krest d0c d1c s0 s1 s2 hW6 hst6 hb5 hO6 i0 i1 hv5 hdr hvn
        go_upto_region 8 with fail
        rw [HW6.out]
        clear HW6
        have q0 := fun d os => cell_regrown (u0.cell 0) d os
        have q1 := fun d os => cell_regrown (u1.cell 0) d os
        have q2 := fun d os => cell_regrown (u1.cell 1) d os
        have q3 := fun d os => cell_regrown i0' d os
        have q4 := fun d os => cell_regrown i1' d os
        have CC : Hid (∀ d os, Calls Try.prog 31 #[tv (.slice sa sn sc) x.base, tv (.slice a2 m2 e2) t2.base] (grow (redrawn W6 d) os) fun e w'' => e = .returned (.bool q) ∧ ∃ p : Regrown, w'' = grow (redrawn W6 p.d) p.os) := fun d os =>
          Calls.regrown_of (HEQ.out _ (hbx.trans ((below_regrown W6 d os).mono hbx.size)))
        go_wp2_with fail
        refine wp_region_quiet_below (by kernel_rfl) (by kernel_rfl) ?_
        repeat (go_big_quiet_step ((go_at_call 31; exact CC.out _ _)))
        refine wpQuiet_nil ?_
        intro w7 hw'
        obtain ⟨p7, hw''⟩ := hw'
        have hb7 : Below W6.heap.size W6 w7 := by rw [hw'']; exact below_regrown _ _ _
        have v3 := v2.below hb7 v2.lt
        have v4 := u3.below hb7 u3.lt
        have hv7 := hv6.bel hb7
        have hst8 := hst7.bel hb7
        have hO9 : Only (turns C xv) w w7 := hO8.trans (Only.of_below' hb7)
        have hz7 := hb7.size
        have hz5 : Zb < w7.heap.size := v4.lt
        clear hw'' p7 q0 q1 q2 q3 q4 v2 u0 u1 u3 hv6 hst7 hO8 i0' i1' hb7
        cases q with
        | false =>
          have HP5 : Hid (P = (5, zT)) := by show _ = _; rw [← HP.out]; show appT t1 t2 = _; unfold appT; rw [HTA.out]; simp [HQ.out]
          have e0 := v3.cell 0
          have e1 := v3.cell 1
          have f0 := v3.frozen 0
          have f1 := v3.frozen 1
          have b5 := (v3.set 0 (.slice none 0 0)).set 1 (.int .i64 0)
          have o5 : Only [H + 1 + 1] w7 ((w7.setCell ⟨H + 1 + 1, 0, none⟩ (.slice none 0 0)).setCell ⟨H + 1 + 1, 1, none⟩ (.int .i64 0)) := ((Only.refl _ _).set (by simp) 0 _).set (by simp) 1 _
          go_wp2
          generalize (w7.setCell ⟨H + 1 + 1, 0, none⟩ (.slice none 0 0)).setCell ⟨H + 1 + 1, 1, none⟩ (.int .i64 0) = W5 at *
          have g0 : W5.cell? ⟨H + 1 + 1, 0, none⟩ = some (.slice none 0 0) := b5.cell 0
          have g1 : W5.cell? ⟨H + 1 + 1, 1, none⟩ = some (.int .i64 0) := b5.cell 1
          exact bodyPost_ret (v := .tuple #[tv (.slice none 0 0) 0, .int .i64 5]) (by simp [results, Try.results93, go_sem, g0, g1]) rfl (by unfold FindP; rw [HP5.out]; exact ⟨none, 0, 0, rfl, hO9.then o5 (fun x hx hlt => by rw [List.mem_singleton.1 hx, HH.out] at hlt; omega), fun h => absurd h (by decide), fun _ => ⟨rfl, rfl⟩⟩)
        | true =>
          have HP5 : Hid (P = (0, .mk rest t1.base)) := by show _ = _; rw [← HP.out]; show appT t1 t2 = _; unfold appT; rw [HTA.out]; simp [HQ.out]
          have d0c := v4.cell 0
          have d1c := v4.cell 1
          have e0 := v3.cell 0
          have e1 := v3.cell 1
          have f0 := v3.frozen 0
          have f1 := v3.frozen 1
          have b5 := (v3.set 0 (.slice va vn vc)).set 1 (.int .i64 t1.base)
          have o5 : Only [H + 1 + 1] w7 ((w7.setCell ⟨H + 1 + 1, 0, none⟩ (.slice va vn vc)).setCell ⟨H + 1 + 1, 1, none⟩ (.int .i64 t1.base)) := ((Only.refl _ _).set (by simp) 0 _).set (by simp) 1 _
          go_wp2
          generalize (w7.setCell ⟨H + 1 + 1, 0, none⟩ (.slice va vn vc)).setCell ⟨H + 1 + 1, 1, none⟩ (.int .i64 t1.base) = W5 at *
          have g0 : W5.cell? ⟨H + 1 + 1, 0, none⟩ = some (.slice va vn vc) := b5.cell 0
          have g1 : W5.cell? ⟨H + 1 + 1, 1, none⟩ = some (.int .i64 t1.base) := b5.cell 1
          exact bodyPost_ret (v := .tuple #[tv (.slice va vn vc) t1.base, .int .i64 0]) (by simp [results, Try.results93, go_sem, g0, g1]) rfl (by unfold FindP; rw [HP5.out]; exact ⟨va, vn, vc, rfl, hO9.then o5 (fun x hx hlt => by rw [List.mem_singleton.1 hx, HH.out] at hlt; omega), fun _ => ⟨xv2, hst8.only o5 (by simp; omega) (fun b hb hm => by rw [List.mem_singleton.1 hm] at hb; exact (hown _ hb).elim (fun h => hno2 _ (by omega) (turns_mem.2 (.inr h))) (fun h => by omega)) (fun k hk => by rw [List.mem_singleton.1 hk]; omega), fun b hb => (hown b hb).imp id (fun h => by rw [HH.out]; omega), hv7.keep fun b hb ho => ⟨o5.block b hb (by simp; omega), by rw [HH.out]; omega, fun e => by have := hT5 b e; omega⟩⟩, fun h => absurd rfl h⟩)
    · have z0 : (q2 == 0) = false := by simp [h2]
      have z9 : (q2 != 0) = true := by simp [h2]
      have HPF : Hid (P = (q2, zT)) := by show _ = _; rw [← HP.out]; show (if (0 : Int) = 0 then (if q2 = 0 then appT t1 t2 else (q2, zT)) else ((0 : Int), zT)) = _; rw [if_pos rfl, if_neg h2]
      have H0 : Hid (q2 ≠ 0) := h2
      clear h2
      have e0 := s2.cell 0
      have e1 := s2.cell 1
      have f0 := s2.frozen 0
      have f1 := s2.frozen 1
      have b5 := (s2.set 0 (.slice none 0 0)).set 1 (.int .i64 0)
      have o5 : Only [H + 1 + 1] W4 ((W4.setCell ⟨H + 1 + 1, 0, none⟩ (.slice none 0 0)).setCell ⟨H + 1 + 1, 1, none⟩ (.int .i64 0)) := ((Only.refl _ _).set (by simp) 0 _).set (by simp) 1 _
      go_wp2
      generalize (W4.setCell ⟨H + 1 + 1, 0, none⟩ (.slice none 0 0)).setCell ⟨H + 1 + 1, 1, none⟩ (.int .i64 0) = W5 at *
      have g0 : W5.cell? ⟨H + 1 + 1, 0, none⟩ = some (.slice none 0 0) := b5.cell 0
      have g1 : W5.cell? ⟨H + 1 + 1, 1, none⟩ = some (.int .i64 0) := b5.cell 1
      exact bodyPost_ret (v := .tuple #[tv (.slice none 0 0) 0, .int .i64 q2]) (by simp [results, Try.results93, go_sem, g0, g1]) rfl (by unfold FindP; rw [HPF.out]; exact ⟨none, 0, 0, rfl, hO6.then o5 (fun x hx hlt => by rw [List.mem_singleton.1 hx, HH.out] at hlt; omega), fun h => absurd h H0.out, fun _ => ⟨rfl, rfl⟩⟩)
  · have z0 : (q1 == 0) = false := by simp [h0]
    have z9 : (q1 != 0) = true := by simp [h0]
    have HPF : Hid (P = (q1, zT)) := by show _ = _; rw [← HP.out]; show (if q1 = 0 then (if q2 = 0 then appT t1 t2 else (q2, zT)) else (q1, zT)) = _; rw [if_neg h0]
    have H0 : Hid (q1 ≠ 0) := h0
    clear h0
    have e0 := d2.cell 0
    have e1 := d2.cell 1
    have f0 := d2.frozen 0
    have f1 := d2.frozen 1
    have b5 := (d2.set 0 (.slice none 0 0)).set 1 (.int .i64 0)
    have o5 : Only [H + 1 + 1] W2 ((W2.setCell ⟨H + 1 + 1, 0, none⟩ (.slice none 0 0)).setCell ⟨H + 1 + 1, 1, none⟩ (.int .i64 0)) := ((Only.refl _ _).set (by simp) 0 _).set (by simp) 1 _
    go_wp2
    generalize (W2.setCell ⟨H + 1 + 1, 0, none⟩ (.slice none 0 0)).setCell ⟨H + 1 + 1, 1, none⟩ (.int .i64 0) = W5 at *
    have g0 : W5.cell? ⟨H + 1 + 1, 0, none⟩ = some (.slice none 0 0) := b5.cell 0
    have g1 : W5.cell? ⟨H + 1 + 1, 1, none⟩ = some (.int .i64 0) := b5.cell 1
    exact bodyPost_ret (v := .tuple #[tv (.slice none 0 0) 0, .int .i64 q1]) (by simp [results, Try.results93, go_sem, g0, g1]) rfl (by unfold FindP; rw [HPF.out]; exact ⟨none, 0, 0, rfl, hO3.then o5 (fun x hx hlt => by rw [List.mem_singleton.1 hx, HH.out] at hlt; omega), fun h => absurd h H0.out, fun _ => ⟨rfl, rfl⟩⟩)

end Go.Proofs.Ytckagmagjogmnaa

