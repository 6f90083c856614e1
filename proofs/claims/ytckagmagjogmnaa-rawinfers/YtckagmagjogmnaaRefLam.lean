/-
  The contract of the document's infer, at a binder.
-/
import Derived.Test.YtckagmagjogmnaaRefInf
import Derived.Test.YtckagmagjogmnaaRefA
import Derived.Test.YtckagmagjogmnaaBoxesK
import Derived.Test.YtckagmagjogmnaaMade
import Derived.Test.YtckagmagjogmnaaInfE
import Derived.Deep.DeepCutAuto
namespace Go.Proofs.Ytckagmagjogmnaa
open Go Go.RowKit

/-- A slice of one type. -/
theorem holds_oneOf {w : World} {ok : Nat → Prop} {t : Ty} {s : Value} (hs : Holds w ok t.args s) (e : TypeId) : Holds (w.alloc (.cells #[s, .int .i64 t.base] e)) (fun m => ok m ∨ w.heap.size ≤ m) [t] (.slice (some ⟨w.heap.size, 0, none⟩) 1 1) := by
  have hk := Blk.new w e #[s, .int .i64 t.base]
  refine Holds.mk [t] (some ⟨w.heap.size, 0, none⟩) 1 (fun _ => s) (Nat.le_refl _) (fun h => by cases h) ?_ ?_
  · intro i u hi
    match i, hi with
    | 0, hi => cases hi; exact ⟨w.heap.size, 0, rfl, .inr (Nat.le_refl _), hk.cell 0, hk.cell 1⟩
    | i + 1, hi => simp at hi
  · intro i u hi
    match i, hi with
    | 0, hi => cases hi; exact (hs.alloc _).mono fun _ _ h => .inl h
    | i + 1, hi => simp at hi
theorem Mix.into {W w : World} {N : Nat} {oko ok : Nat → Prop} (hB : Below W.heap.size W w) {b : Nat} (h : Mix N W.heap.size oko ok b ∨ w.heap.size ≤ b) : Mix N W.heap.size oko (fun m => w.heap.size ≤ m ∨ ok m) b := by
  rcases h with (h | h) | h
  · exact .inl h
  · exact .inr ⟨h.1, .inr h.2⟩
  · exact .inr ⟨by have := hB.size; omega, .inl h⟩
def actBL12 (N : Nat) (a1 : Option Addr) (xn a2 : Nat) (y0 y2 y4 y6 y7 y8 y9 y10 y13 y14 y15 y16 y17 y18 y19 y20 y21 y22 y23 y24 y25 y26 y27 y28 y29 y30 y31 y32 y33 y34 y35 y36 y37 y38 y39 y40 y41 y42 y43 y44 y45 y46 y47 y48 y49 y64 y65 y66 y67 y68 y69 y70 y71 y72 y73 y74 y75 y76 y77 y78 y79 y80 y81 y82 y83 y84 y85 y86 y87 y88 y89 y90 y91 y92 y93 y94 y95 y96 y97 y98 y99 y100 y101 y102 y103 y104 y105 y106 y107 y108 y109 y110 y111 y112 y113 y114 y115 y116 y117 y118 y119 y120 y121 : Value) (u : Nat → Value) : Act :=
  { tmps := #[y0, .slice a1 xn a2, y2, .pointer (some ⟨N, 0, none⟩), y4, .pointer (some ⟨(N + 1), 0, none⟩), y6, y7, y8, y9, y10, u 11, u 12, y13, y14, y15, y16, y17, y18, y19, y20, y21, y22, y23, y24, y25, y26, y27, y28, y29, y30, y31, y32, y33, y34, y35, y36, y37, y38, y39, y40, y41, y42, y43, y44, y45, y46, y47, y48, y49, u 50, u 51, u 52, u 53, u 54, u 55, u 56, u 57, u 58, u 59, u 60, u 61, u 62, u 63, y64, y65, y66, y67, y68, y69, y70, y71, y72, y73, y74, y75, y76, y77, y78, y79, y80, y81, y82, y83, y84, y85, y86, y87, y88, y89, y90, y91, y92, y93, y94, y95, y96, y97, y98, y99, y100, y101, y102, y103, y104, y105, y106, y107, y108, y109, y110, y111, y112, y113, y114, y115, y116, y117, y118, y119, y120, y121], defers := [] }
set_option maxRecDepth 100000 in
theorem over_actBL12 (N : Nat) (a1 : Option Addr) (xn a2 : Nat) (y0 y2 y4 y6 y7 y8 y9 y10 y13 y14 y15 y16 y17 y18 y19 y20 y21 y22 y23 y24 y25 y26 y27 y28 y29 y30 y31 y32 y33 y34 y35 y36 y37 y38 y39 y40 y41 y42 y43 y44 y45 y46 y47 y48 y49 y64 y65 y66 y67 y68 y69 y70 y71 y72 y73 y74 y75 y76 y77 y78 y79 y80 y81 y82 y83 y84 y85 y86 y87 y88 y89 y90 y91 y92 y93 y94 y95 y96 y97 y98 y99 y100 y101 y102 y103 y104 y105 y106 y107 y108 y109 y110 y111 y112 y113 y114 y115 y116 y117 y118 y119 y120 y121 : Value) (u0 u : Nat → Value) : over (fun s => (Nat.ble 11 s && Nat.ble s 12) || (Nat.ble 50 s && Nat.ble s 63)) u (actBL12 N a1 xn a2 y0 y2 y4 y6 y7 y8 y9 y10 y13 y14 y15 y16 y17 y18 y19 y20 y21 y22 y23 y24 y25 y26 y27 y28 y29 y30 y31 y32 y33 y34 y35 y36 y37 y38 y39 y40 y41 y42 y43 y44 y45 y46 y47 y48 y49 y64 y65 y66 y67 y68 y69 y70 y71 y72 y73 y74 y75 y76 y77 y78 y79 y80 y81 y82 y83 y84 y85 y86 y87 y88 y89 y90 y91 y92 y93 y94 y95 y96 y97 y98 y99 y100 y101 y102 y103 y104 y105 y106 y107 y108 y109 y110 y111 y112 y113 y114 y115 y116 y117 y118 y119 y120 y121 u0) = actBL12 N a1 xn a2 y0 y2 y4 y6 y7 y8 y9 y10 y13 y14 y15 y16 y17 y18 y19 y20 y21 y22 y23 y24 y25 y26 y27 y28 y29 y30 y31 y32 y33 y34 y35 y36 y37 y38 y39 y40 y41 y42 y43 y44 y45 y46 y47 y48 y49 y64 y65 y66 y67 y68 y69 y70 y71 y72 y73 y74 y75 y76 y77 y78 y79 y80 y81 y82 y83 y84 y85 y86 y87 y88 y89 y90 y91 y92 y93 y94 y95 y96 y97 y98 y99 y100 y101 y102 y103 y104 y105 y106 y107 y108 y109 y110 y111 y112 y113 y114 y115 y116 y117 y118 y119 y120 y121 u := rfl
def VBL12 (N X xn : Nat) (oko : Nat → Prop) (bs : Int) (ctx : List Ty) (tz : Ty) (u : Rw) (Q : Int × Ty) (a1 c1 m1 x1 sa sd : Option Addr) (a2 cn c2 mn m2 bn x2 un sc kn se x4 g o : Nat) (s : Nat) (w : World) (ok : Nat → Prop) (v : Value) : Prop := match s with
  | 51 => v = wov bs (.slice c1 cn c2) (.slice m1 mn m2)
  | 52 => v = .slice a1 xn a2
  | 53 => v = .pointer (some ⟨N + 1, 1, none⟩)
  | 54 => v = tv (.slice x1 bn x2) tz.base
  | 55 => ∃ d, v = .slice (some ⟨d, 0, none⟩) 1 1 ∧ Holds w (Mix N X oko ok) [tz] (.slice (some ⟨d, 0, none⟩) 1 1)
  | 56 => ∃ ba bc, v = .slice ba (xn + 1) bc ∧ Holds w (Mix N X oko ok) (ctx ++ [tz]) (.slice ba (xn + 1) bc)
  | 57 => v = .pointer (some ⟨N + 1, 4, none⟩)
  | 58 => v = .slice (some ⟨g, o, none⟩) 1 x4
  | 59 => v = .pointer (some ⟨g, o, none⟩)
  | 60 => v = rwv u.kind (.slice sa un sc) u.ty.base u.idx (.slice sd kn se)
  | 61 => ∃ qa qn qc, v = .tuple #[tv (.slice qa qn qc) Q.2.base, .int .i64 Q.1] ∧ Holds w (Mix N X oko ok) Q.2.args (.slice qa qn qc)
  | 50 => ∃ qa qn qc, v = .tuple #[tv (.slice qa qn qc) Q.2.base, .int .i64 Q.1] ∧ Holds w (Mix N X oko ok) Q.2.args (.slice qa qn qc)
  | 62 => ∃ qa qn qc, v = tv (.slice qa qn qc) Q.2.base ∧ Holds w (Mix N X oko ok) Q.2.args (.slice qa qn qc)
  | 63 => v = .int .i64 Q.1
  | 12 => v = .int .i64 Q.1
  | _ => True
theorem VBL12.keep (N X xn : Nat) (oko : Nat → Prop) (bs : Int) (ctx : List Ty) (tz : Ty) (u : Rw) (Q : Int × Ty) (a1 c1 m1 x1 sa sd : Option Addr) (a2 cn c2 mn m2 bn x2 un sc kn se x4 g o : Nat) (W : World) (hN : X = W.heap.size) (hNX : N ≤ W.heap.size) (s : Nat) (w w' : World) (ok ok' : Nat → Prop) (v : Value) (h : VBL12 N X xn oko bs ctx tz u Q a1 c1 m1 x1 sa sd a2 cn c2 mn m2 bn x2 un sc kn se x4 g o s w ok v) (hb1 : Below W.heap.size W w) (hb2 : Below W.heap.size W w') (hsz : w.heap.size ≤ w'.heap.size) (hkp : ∀ m, m < w.heap.size → ok m → w'.heap[m]? = w.heap[m]? ∧ ok' m) : VBL12 N X xn oko bs ctx tz u Q a1 c1 m1 x1 sa sd a2 cn c2 mn m2 bn x2 un sc kn se x4 g o s w' ok' v := by
  have _ := hsz
  subst hN
  have _ := hb1
  have _ := hb2
  have _ := hkp
  revert h
  unfold VBL12
  split <;> intro h
  · exact h
  · exact h
  · exact h
  · exact h
  · obtain ⟨d, e0, h1⟩ := h; exact ⟨d, e0, h1.mixkeep hNX hb1 hb2 hkp⟩
  · obtain ⟨ba, bc, e0, h1⟩ := h; exact ⟨ba, bc, e0, h1.mixkeep hNX hb1 hb2 hkp⟩
  · exact h
  · exact h
  · exact h
  · exact h
  · obtain ⟨qa, qn, qc, e0, h1⟩ := h; exact ⟨qa, qn, qc, e0, h1.mixkeep hNX hb1 hb2 hkp⟩
  · obtain ⟨qa, qn, qc, e0, h1⟩ := h; exact ⟨qa, qn, qc, e0, h1.mixkeep hNX hb1 hb2 hkp⟩
  · obtain ⟨qa, qn, qc, e0, h1⟩ := h; exact ⟨qa, qn, qc, e0, h1.mixkeep hNX hb1 hb2 hkp⟩
  · exact h
  · exact h
  · trivial

set_option maxRecDepth 100000 in
set_option maxHeartbeats 3200000 in
theorem refInf_lam (r u : Rw) (hkd : r.kind = 3) (hks : r.kids = [u]) (htz : r.ty.size ≤ 1000000) (hI : RefInfAt u) : RefInfAt r := by
  intro cs ms ctx bs cv mv xv sb sr ok w hc hm hx hb hr hcs hms hxs hlen
  have hrs := r.size_eq
  rw [hks] at hr hrs
  obtain ⟨c1, c2, rfl, _⟩ := hc.shape
  obtain ⟨m1, m2, rfl, _⟩ := hm.shape
  obtain ⟨a1, a2, rfl, _⟩ := hx.shape
  obtain ⟨x1, x2, rfl, _⟩ := hb.shape
  obtain ⟨x3, x4, rfl, _, hat⟩ := hr.shape
  obtain ⟨g, o, s1, r1, rfl, hgo, hg, i0, i1, i2, i3, i4, hs1, hsr1⟩ := hat 0 u rfl
  obtain ⟨sa, sc, rfl, _⟩ := hs1.shape
  obtain ⟨sd, se, rfl, _⟩ := hsr1.shape
  rw [show o + 0 * 5 = o by omega] at i0 i1 i2 i3 i4
  have husz : ctx.length + 1 + u.size ≤ 900 := by simp only [sizeR] at hrs; omega
  obtain ⟨N, hN⟩ : ∃ N, w.heap.size = N := ⟨_, rfl⟩
  have HN : Hid (w.heap.size = N) := hN
  have hinf : r.inf bs cs ms ctx = finI (if rightB bs r.ty = true then lamI r.ty [u.inf bs cs ms (ctx ++ [r.ty])] else (2, zT)) := by rw [r.inf_eq]; unfold Rw.ofI; rw [if_pos hkd, hks]; rfl
  obtain ⟨P, hP⟩ : ∃ P, r.inf bs cs ms ctx = P := ⟨_, rfl⟩
  obtain ⟨q, hq⟩ : ∃ q, rightB bs r.ty = q := ⟨_, rfl⟩
  have HQ : Hid (rightB bs r.ty = q) := hq
  obtain ⟨Q, hQ⟩ : ∃ Q, u.inf bs cs ms (ctx ++ [r.ty]) = Q := ⟨_, rfl⟩
  have HP : Hid (finI (if q = true then lamI r.ty [Q] else (2, zT)) = P) := by show _ = _; rw [← hQ, ← hq, ← hinf, hP]
  have hQz := u.inf_size bs cs ms (ctx ++ [r.ty])
  rw [hQ] at hQz
  rw [hP, hkd]
  have hok : ∀ b, b < w.heap.size → ok b → b < N ∧ ok b := fun b hb ho => ⟨hN ▸ hb, ho⟩
  have hc' := hc.mono hok
  have hm' := hm.mono hok
  have hx' := hx.mono hok
  have hb' := hb.mono hok
  have hs' := hs1.mono hok
  have hsr' := hsr1.mono hok
  have hgN : g < N := hN ▸ hg
  have hk55 := fun (okk : Nat → Prop) (nk : Nat) (hnk : (ctx ++ [r.ty]).length = nk) (ha : Option Addr) (hn : Nat) (cur : World) (h1 : Below N w cur) (ho : ∀ b, b < N → ok b → okk b) (hcx : Holds cur okk (ctx ++ [r.ty]) (.slice ha nk hn)) (hrt : rightB bs r.ty = true) => hI cs ms (ctx ++ [r.ty]) bs (.slice c1 cs.length c2) (.slice m1 ms.length m2) (.slice ha nk hn) (.slice sa u.ty.args.length sc) (.slice sd u.kids.length se) okk cur
    ((hc'.bel (hN ▸ h1)).mono fun b _ h => ho b h.1 h.2) ((hm'.bel (hN ▸ h1)).mono fun b _ h => ho b h.1 h.2) hcx ((hs'.bel (hN ▸ h1)).mono fun b _ h => ho b h.1 h.2) ((hsr'.bel (hN ▸ h1)).mono fun b _ h => ho b h.1 h.2) hcs hms
    (fun v hv => (List.mem_append.1 hv).elim (hxs v) fun h => by rw [List.mem_singleton.1 h]; have h9 := hrt; unfold rightB fewB at h9; simp at h9; exact h9.1.1) (by rw [List.length_append, List.length_singleton]; exact husz)
  simp only [hQ] at hk55
  have hcl : ctx.length + [r.ty].length ≤ 1000000 := by simp; omega
  clear hinf
  generalize r.ty = tz at *
  have HTZ : Hid (tz.size ≤ 1000000) := htz
  obtain ⟨W0, hW0⟩ : ∃ W0, (((w.alloc (.cells #[.int .i64 bs, .slice c1 cs.length c2, .slice m1 ms.length m2] 47)).alloc (.cells #[.int .i64 3, .slice x1 tz.args.length x2, .int .i64 tz.base, .int .i64 r.idx, .slice (some ⟨g, o, none⟩) [u].length x4] 27)).alloc (.cells #[.slice none 0 0, .int .i64 0] 24)).alloc (.cells #[.slice none 0 0, .int .i64 0] 24) = W0 := ⟨_, rfl⟩
  have b0 : Blk W0 N 47 #[.int .i64 bs, .slice c1 cs.length c2, .slice m1 ms.length m2] := by rw [← hW0]; exact (((Blk.new' w N 47 _ hN).alloc _).alloc _).alloc _
  have b1 : Blk W0 (N + 1) 27 #[.int .i64 3, .slice x1 tz.args.length x2, .int .i64 tz.base, .int .i64 r.idx, .slice (some ⟨g, o, none⟩) [u].length x4] := by rw [← hW0]; exact ((Blk.new' _ (N + 1) 27 _ (by simp [hN])).alloc _).alloc _
  have b2 : Blk W0 (N + 1 + 1) 24 #[.slice none 0 0, .int .i64 0] := by rw [← hW0]; exact (Blk.new' _ (N + 1 + 1) 24 _ (by simp [hN])).alloc _
  have b3 : Blk W0 (N + 1 + 1 + 1) 24 #[.slice none 0 0, .int .i64 0] := by rw [← hW0]; exact Blk.new' _ (N + 1 + 1 + 1) 24 _ (by simp [hN])
  have bl0 : Below N w W0 := by rw [← hW0]; exact ((((Below.refl N w).alloc (by omega) _).alloc (by simp; omega) _).alloc (by simp; omega) _).alloc (by simp; omega) _
  have k78 := refRight_calls bs tz (fun b => b < N ∧ ok b) (.slice x1 tz.args.length x2) W0 (hb'.bel (hN ▸ bl0)) htz
  rw [HQ.out] at k78
  have HW : Hid _ := hW0
  have d0 := b1.cell 0
  have d1 := b1.cell 1
  have d2 := b1.cell 2
  have c0 := b0.cell 0
  have h1l : [u].length = 1 := rfl
  obtain ⟨cn, hcn⟩ : ∃ n, cs.length = n := ⟨_, rfl⟩
  obtain ⟨mn, hmn⟩ : ∃ n, ms.length = n := ⟨_, rfl⟩
  obtain ⟨xn, hxn⟩ : ∃ n, ctx.length = n := ⟨_, rfl⟩
  obtain ⟨bn, hbn⟩ : ∃ n, tz.args.length = n := ⟨_, rfl⟩
  obtain ⟨un, hun⟩ : ∃ n, u.ty.args.length = n := ⟨_, rfl⟩
  obtain ⟨kn, hkn⟩ : ∃ n, u.kids.length = n := ⟨_, rfl⟩
  have hl9 : (ctx ++ [tz]).length = xn + 1 := by rw [List.length_append, List.length_singleton, hxn]
  have hk48 := fun (cur : World) (okk : Nat → Prop) (sl : Value) (h1 : Below N w cur) (ho : ∀ b, b < N → ok b → okk b) (hs : Holds cur okk [tz] sl) => Behind_calls ctx [tz] okk (.slice a1 ctx.length a2) sl cur ((hx'.bel (hN ▸ h1)).mono fun b _ h => ho b h.1 h.2) hs hcl
  simp only [hcn, hmn, hxn, hun, hkn] at hk55 hk48
  rw [hcn, hmn] at b0
  rw [hbn, h1l] at b1
  rw [hbn] at k78 d1
  rw [hcn, hmn, hbn, h1l] at HW
  simp only [hcn, hmn, hxn, hbn, h1l]
  rw [hun] at i1
  rw [hkn] at i4
  rw [hbn] at hb'
  clear hW0 hc hm hx hb hr hP hs1 hsr1 hc' hm' hs' hsr' hx' hI hxs hcs hms hlen hkd hks hrs hq htz hcn hmn hxn hun hkn hat husz hcl h1l
  go_enter Try.func55, Try.ntmps55
  go_upto_region 10 with fail
  rw [HW.out]
  clear HW
  go_wp2_with fail
  refine k78.mono ?_
  clear k78
  rintro e w1 ⟨rfl, hb1⟩
  have hB1 : Below N w w1 := bl0.trans (hb1.mono (by have := b3.lt; omega))
  have e0 := b0.below hb1 b0.lt
  have e1 := b1.below hb1 b1.lt
  have e2 := b2.below hb1 b2.lt
  have e3 := b3.below hb1 b3.lt
  have hl1 : N + 1 + 1 + 1 < w1.heap.size := e3.lt
  clear b0 b1 b2 b3 bl0 c0 d0 d1 d2
  cases q with
  | false =>
    have HPF : Hid (P = (2, zT)) := by show _ = _; rw [← HP.out]; rfl
    clear hk55 hk48 e0 e1
    have q0 := e3.cell 0
    have q1 := e3.cell 1
    have z00 := e2.cell 0
    have z11 := e2.cell 1
    have f0 := e2.frozen 0
    have f1 := e2.frozen 1
    have b5 := (e2.set 0 (.slice none 0 0)).set 1 (.int .i64 0)
    have o5 : Only [N + 1 + 1] w1 ((w1.setCell ⟨N + 1 + 1, 0, none⟩ (.slice none 0 0)).setCell ⟨N + 1 + 1, 1, none⟩ (.int .i64 0)) := ((Only.refl _ _).set (by simp) 0 _).set (by simp) 1 _
    go_wp2
    generalize (w1.setCell ⟨N + 1 + 1, 0, none⟩ (.slice none 0 0)).setCell ⟨N + 1 + 1, 1, none⟩ (.int .i64 0) = W5 at *
    have g0 : W5.cell? ⟨N + 1 + 1, 0, none⟩ = some (.slice none 0 0) := b5.cell 0
    have g1 : W5.cell? ⟨N + 1 + 1, 1, none⟩ = some (.int .i64 0) := b5.cell 1
    exact bodyPost_ret (v := .tuple #[tv (.slice none 0 0) 0, .int .i64 2]) (by simp [results, Try.results55, go_sem, g0, g1]) rfl (by unfold RefTold; rw [HPF.out]; exact ⟨none, 0, 0, rfl, Holds.nil _ _ _ _ (fun _ => rfl), HN.out ▸ (hB1.trans (o5.below (n := N) (by have := hB1.size; omega) (by simp; omega)))⟩)
  | true =>
    have hbt : Holds w1 (fun b => b < N ∧ ok b) tz.args (.slice x1 bn x2) := hb'.bel (hN ▸ hB1)
    clear hb' hb1
    have i0' := (cat hB1 hgN).trans i0
    have i1' := (cat hB1 hgN).trans i1
    have i2' := (cat hB1 hgN).trans i2
    have i3' := (cat hB1 hgN).trans i3
    have i4' := (cat hB1 hgN).trans i4
    have hNX : N ≤ w1.heap.size := by omega
    clear i0 i1 i2 i3 i4
    go_upto_region 12 with fail
    go_cut [11, 12] (fun s11 s12 wx => ∃ (M : Nat) (qa : Option Addr) (qn qc : Nat), s11 = .pointer (some ⟨M, 0, none⟩) ∧ s12 = .int .i64 Q.1 ∧ Blk wx M 24 #[.slice qa qn qc, .int .i64 Q.2.base] ∧ Holds wx (fun b => (b < N ∧ ok b) ∨ w1.heap.size ≤ b) Q.2.args (.slice qa qn qc) ∧ w1.heap.size ≤ M ∧ Below w1.heap.size w1 wx)
    case first =>
      have hgX : g < w1.heap.size := by omega
      rename_i K Q' hKs
      refine (wpIn_wide (n := 9)).1 ?_
      show Code.wpIn Fence.wide 9 Try.prog (Code.region 12 _ true) _ (actBL12 N a1 xn a2 (wov bs (.slice c1 cn c2) (.slice m1 mn m2)) (rwv 3 (.slice x1 bn x2) tz.base r.idx (.slice (some ⟨g, o, none⟩) 1 x4)) (undef) (.pointer (some ⟨N + 1 + 1, 0, none⟩)) (.int .i64 0) (.pointer (some ⟨N + 1 + 1 + 1, 0, none⟩)) (undef) (undef) (undef) (undef) (undef) (undef) (undef) (.pointer (some ⟨N + 1, 0, none⟩)) (.int .i64 3) (.bool false) (undef) (undef) (undef) (undef) (undef) (undef) (undef) (undef) (undef) (undef) (undef) (undef) (undef) (undef) (undef) (undef) (undef) (undef) (undef) (.pointer (some ⟨N + 1, 0, none⟩)) (.int .i64 3) (.bool true) (.pointer (some ⟨N + 1, 1, none⟩)) (tv (.slice x1 bn x2) tz.base) (.pointer (some ⟨N, 0, none⟩)) (.int .i64 bs) (.bool true) (.bool false) (undef) (undef) (undef) (undef) (undef) (undef) (undef) (undef) (undef) (undef) (undef) (undef) (undef) (undef) (undef) (undef) (undef) (undef) (undef) (undef) (undef) (undef) (undef) (undef) (undef) (undef) (undef) (undef) (undef) (undef) (undef) (undef) (undef) (undef) (undef) (undef) (undef) (undef) (undef) (undef) (undef) (undef) (undef) (undef) (undef) (undef) (undef) (undef) (undef) (undef) (undef) (undef) (undef) (undef) (undef) (undef) (undef) (undef) (undef) (fun | 11 => undef | 12 => undef | 50 => undef | 51 => undef | 52 => undef | 53 => undef | 54 => undef | 55 => undef | 56 => undef | 57 => undef | 58 => undef | 59 => undef | 60 => undef | 61 => undef | 62 => undef | 63 => undef | _ => undef)) w1
      refine region_boxesK [(0, 0), (1, 0), (2, 0), (3, 0), (4, 0), (5, 0), (6, 0), (7, 0), (8, 0), (9, 0), (10, 0), (11, 0), (12, 0), (13, 1), (16, 1)] [⟨11, 62, 24, #[.slice none 0 0, .int .i64 0], 14, 0, 15⟩] (fun s => (Nat.ble 11 s && Nat.ble s 12) || (Nat.ble 50 s && Nat.ble s 63)) (VBL12 N w1.heap.size xn ok bs ctx tz u Q a1 c1 m1 x1 sa sd a2 cn c2 mn m2 bn x2 un sc kn se x4 g o) (by kernel_rfl) (by kernel_rfl) (by kernel_rfl) (by kernel_rfl) (by kernel_rfl) (by kernel_rfl) (by kernel_rfl) (VBL12.keep N w1.heap.size xn ok bs ctx tz u Q a1 c1 m1 x1 sa sd a2 cn c2 mn m2 bn x2 un sc kn se x4 g o w1 rfl hNX) ⟨?_, ?_, ?_, ?_, ?_, ?_, ?_, ?_, ?_, ?_, ?_, ?_, ?_, ?_, ?_, trivial⟩ ⟨⟨?_, ?_⟩, trivial⟩ ?_
      · intro oo ho uu okk w hB hk K' hK
        cases ho
        have g0 := (cat hB e0.lt).trans (e0.cell 0)
        have g1 := (cat hB e0.lt).trans (e0.cell 1)
        have g2 := (cat hB e0.lt).trans (e0.cell 2)
        have hK3 := hK (wov bs (.slice c1 cn c2) (.slice m1 mn m2)) w (fun s hs => by cases hs; exact rfl) (Below.refl _ _)
        simp only [over_actBL12] at hK3 ⊢
        clear hK hk
        unfold actBL12 at hK3 ⊢
        refine want_plain rfl ?_
        go_simp
        exact hK3
      · intro oo ho uu okk w hB hk K' hK
        cases ho
        have hK3 := hK (.slice a1 xn a2) w (fun s hs => by cases hs; exact rfl) (Below.refl _ _)
        simp only [over_actBL12] at hK3 ⊢
        clear hK hk
        unfold actBL12 at hK3 ⊢
        refine want_plain rfl ?_
        go_simp
        exact hK3
      · intro oo ho uu okk w hB hk K' hK
        cases ho
        have hK3 := hK (.pointer (some ⟨N + 1, 1, none⟩)) w (fun s hs => by cases hs; exact rfl) (Below.refl _ _)
        simp only [over_actBL12] at hK3 ⊢
        clear hK hk
        unfold actBL12 at hK3 ⊢
        refine want_plain rfl ?_
        go_simp
        exact hK3
      · intro oo ho uu okk w hB hk K' hK
        cases ho
        have e53 : uu 53 = .pointer (some ⟨N + 1, 1, none⟩) := hk 53 (by decide +kernel) rfl
        have g1 := (cat hB e1.lt).trans (e1.cell 1)
        have g2 := (cat hB e1.lt).trans (e1.cell 2)
        have hK3 := hK (tv (.slice x1 bn x2) tz.base) w (fun s hs => by cases hs; exact rfl) (Below.refl _ _)
        simp only [over_actBL12] at hK3 ⊢
        clear hK hk
        unfold actBL12 at hK3 ⊢
        simp only [e53] at hK3 ⊢
        refine want_plain rfl ?_
        go_simp
        exact hK3
      · intro oo ho uu okk w hB hk K' hK
        cases ho
        have e54 : uu 54 = tv (.slice x1 bn x2) tz.base := hk 54 (by decide +kernel) rfl
        have hK3 := hK (.slice (some ⟨w.heap.size, 0, none⟩) 1 1) (w.alloc (.cells #[.slice x1 bn x2, .int .i64 tz.base] 24)) (fun s hs => by cases hs; exact ⟨w.heap.size, rfl, (holds_oneOf ((hbt.bel hB).mono (ok' := Mix N w1.heap.size ok okk) fun _ _ h => .inl h) _).mono (fun _ _ h => Mix.into hB h)⟩) ((Below.refl _ _).alloc (Nat.le_refl _) _)
        simp only [over_actBL12] at hK3 ⊢
        clear hK hk
        unfold actBL12 at hK3 ⊢
        simp only [e54] at hK3 ⊢
        refine want_plain rfl ?_
        go_simp
        exact hK3
      · intro oo ho uu okk w hB hk K' hK
        cases ho
        have e52 : uu 52 = .slice a1 xn a2 := hk 52 (by decide +kernel) rfl
        obtain ⟨d_55, e55, h55_1⟩ := hk 55 (by decide +kernel) rfl
        have hcall := hk48 w (Mix N w1.heap.size ok okk) (.slice (some ⟨d_55, 0, none⟩) 1 1) (hB1.trans (hB.mono hNX)) (fun b h1 h2 => .inl ⟨h1, h2⟩) h55_1
        have hK3 := fun (w2 : World) (ba : Option Addr) (bc : Nat) (h1 : Holds w2 (Mix N w1.heap.size ok fun m => w.heap.size ≤ m ∨ okk m) (ctx ++ [tz]) (.slice ba (xn + 1) bc)) (hb2 : Below w.heap.size w w2) => hK (.slice ba (xn + 1) bc) w2 (fun s hs => by cases hs; exact ⟨ba, bc, rfl, h1⟩) hb2
        simp only [over_actBL12] at hK3 ⊢
        clear hK hk
        unfold actBL12 at hK3 ⊢
        simp only [e52, e55] at hK3 ⊢
        refine want_plain rfl ?_
        go_simp
        refine ⟨trivial, (callsIn_wide.2 hcall).mono ?_⟩
        rintro e w2 ⟨vv, rfl, h1, hbw⟩
        obtain ⟨ba, bc, rfl, _⟩ := h1.shape
        rw [hl9] at h1 ⊢
        exact hK3 w2 ba bc (h1.mono (fun _ _ h => Mix.into hB h)) hbw
      · intro oo ho uu okk w hB hk K' hK
        cases ho
        have hK3 := hK (.pointer (some ⟨N + 1, 4, none⟩)) w (fun s hs => by cases hs; exact rfl) (Below.refl _ _)
        simp only [over_actBL12] at hK3 ⊢
        clear hK hk
        unfold actBL12 at hK3 ⊢
        refine want_plain rfl ?_
        go_simp
        exact hK3
      · intro oo ho uu okk w hB hk K' hK
        cases ho
        have e57 : uu 57 = .pointer (some ⟨N + 1, 4, none⟩) := hk 57 (by decide +kernel) rfl
        have g4 := (cat hB e1.lt).trans (e1.cell 4)
        have hK3 := hK (.slice (some ⟨g, o, none⟩) 1 x4) w (fun s hs => by cases hs; exact rfl) (Below.refl _ _)
        simp only [over_actBL12] at hK3 ⊢
        clear hK hk
        unfold actBL12 at hK3 ⊢
        simp only [e57] at hK3 ⊢
        refine want_plain rfl ?_
        go_simp
        exact hK3
      · intro oo ho uu okk w hB hk K' hK
        cases ho
        have e58 : uu 58 = .slice (some ⟨g, o, none⟩) 1 x4 := hk 58 (by decide +kernel) rfl
        have hK3 := hK (.pointer (some ⟨g, o, none⟩)) w (fun s hs => by cases hs; exact rfl) (Below.refl _ _)
        simp only [over_actBL12] at hK3 ⊢
        clear hK hk
        unfold actBL12 at hK3 ⊢
        simp only [e58] at hK3 ⊢
        refine want_plain rfl ?_
        go_simp
        exact hK3
      · intro oo ho uu okk w hB hk K' hK
        cases ho
        have e59 : uu 59 = .pointer (some ⟨g, o, none⟩) := hk 59 (by decide +kernel) rfl
        have g0 := (cat hB hgX).trans i0'
        have g1 := (cat hB hgX).trans i1'
        have g2 := (cat hB hgX).trans i2'
        have g3 := (cat hB hgX).trans i3'
        have g4 := (cat hB hgX).trans i4'
        have hK3 := hK (rwv u.kind (.slice sa un sc) u.ty.base u.idx (.slice sd kn se)) w (fun s hs => by cases hs; exact rfl) (Below.refl _ _)
        simp only [over_actBL12] at hK3 ⊢
        clear hK hk
        unfold actBL12 at hK3 ⊢
        simp only [e59] at hK3 ⊢
        refine want_plain rfl ?_
        go_simp
        exact hK3
      · intro oo ho uu okk w hB hk K' hK
        cases ho
        have e51 : uu 51 = wov bs (.slice c1 cn c2) (.slice m1 mn m2) := hk 51 (by decide +kernel) rfl
        obtain ⟨ba_56, bc_56, e56, h56_1⟩ := hk 56 (by decide +kernel) rfl
        have e60 : uu 60 = rwv u.kind (.slice sa un sc) u.ty.base u.idx (.slice sd kn se) := hk 60 (by decide +kernel) rfl
        have hcall := hk55 (Mix N w1.heap.size ok okk) (xn + 1) hl9 ba_56 bc_56 w (hB1.trans (hB.mono hNX)) (fun b h1 h2 => .inl ⟨h1, h2⟩) h56_1 HQ.out
        have hK3 := fun (w2 : World) (qa : Option Addr) (qn qc : Nat) (h1 : Holds w2 (Mix N w1.heap.size ok fun m => w.heap.size ≤ m ∨ okk m) Q.2.args (.slice qa qn qc)) (hb2 : Below w.heap.size w w2) => hK (.tuple #[tv (.slice qa qn qc) Q.2.base, .int .i64 Q.1]) w2 (fun s hs => by cases hs; exact ⟨qa, qn, qc, rfl, h1⟩) hb2
        simp only [over_actBL12] at hK3 ⊢
        clear hK hk
        unfold actBL12 at hK3 ⊢
        simp only [e51, e56, e60] at hK3 ⊢
        refine want_plain rfl ?_
        go_simp
        refine ⟨trivial, (callsIn_wide.2 hcall).mono ?_⟩
        rintro e w2 ⟨qa, qn, qc, rfl, h1, hbw⟩
        exact hK3 w2 qa qn qc (h1.mono (fun _ _ h => Mix.into hB h)) hbw
      · intro oo ho uu okk w hB hk K' hK
        cases ho
        obtain ⟨qa_61, qn_61, qc_61, e61, h61_1⟩ := hk 61 (by decide +kernel) rfl
        have hK3 := hK (.tuple #[tv (.slice qa_61 qn_61 qc_61) Q.2.base, .int .i64 Q.1]) w (fun s hs => by cases hs; exact ⟨qa_61, qn_61, qc_61, rfl, h61_1.mono (fun _ _ h => Mix.into hB (.inl h))⟩) (Below.refl _ _)
        simp only [over_actBL12] at hK3 ⊢
        clear hK hk
        unfold actBL12 at hK3 ⊢
        simp only [e61] at hK3 ⊢
        refine want_plain rfl ?_
        go_simp
        exact hK3
      · intro oo ho uu okk w hB hk K' hK
        cases ho
        obtain ⟨qa_50, qn_50, qc_50, e50, h50_1⟩ := hk 50 (by decide +kernel) rfl
        have hK3 := hK (tv (.slice qa_50 qn_50 qc_50) Q.2.base) w (fun s hs => by cases hs; exact ⟨qa_50, qn_50, qc_50, rfl, h50_1.mono (fun _ _ h => Mix.into hB (.inl h))⟩) (Below.refl _ _)
        simp only [over_actBL12] at hK3 ⊢
        clear hK hk
        unfold actBL12 at hK3 ⊢
        simp only [e50] at hK3 ⊢
        refine want_plain rfl ?_
        go_simp
        exact hK3
      · intro oo ho uu okk w hB hk K' hK
        cases ho
        obtain ⟨qa_50, qn_50, qc_50, e50, h50_1⟩ := hk 50 (by decide +kernel) rfl
        have hK3 := hK (.int .i64 Q.1) w (fun s hs => by cases hs; exact rfl) (Below.refl _ _)
        simp only [over_actBL12] at hK3 ⊢
        clear hK hk
        unfold actBL12 at hK3 ⊢
        simp only [e50] at hK3 ⊢
        refine want_plain rfl ?_
        go_simp
        exact hK3
      · intro oo ho uu okk w hB hk K' hK
        cases ho
        have e63 : uu 63 = .int .i64 Q.1 := hk 63 (by decide +kernel) rfl
        have hK3 := hK (.int .i64 Q.1) w (fun s hs => by cases hs; exact rfl) (Below.refl _ _)
        simp only [over_actBL12] at hK3 ⊢
        clear hK hk
        unfold actBL12 at hK3 ⊢
        simp only [e63] at hK3 ⊢
        refine want_plain rfl ?_
        go_simp
        exact hK3
      · intro oo ho uu w K' hK
        cases ho
        simp only [over_actBL12] at hK ⊢
        unfold actBL12 at hK ⊢
        refine want_plain rfl ?_
        go_simp
        exact hK
      · intro oo ho uu okk w m hm hb hv K' hK
        cases ho
        dsimp only at hm hb hv hK
        obtain ⟨w00, ok00, hv⟩ := hv
        obtain ⟨qa, qn, qc, e62, h1⟩ := hv
        have fz0 := hb.frozen 0
        have cz0 := hb.cell 0
        have fz1 := hb.frozen 1
        have cz1 := hb.cell 1
        have b9 := ((hb.set 0 (.slice qa qn qc)).set 1 (.int .i64 Q.2.base))
        have o9 := (((Only.refl [m] w).set (B := m) (by simp) 0 (.slice qa qn qc)).set (B := m) (by simp) 1 (.int .i64 Q.2.base))
        rw [e62] at hK
        have hK3 := hK _ b9 o9
        simp only [over_actBL12] at hK3 ⊢
        clear hK b9 o9
        unfold actBL12 at hK3 ⊢
        simp only [hm, e62] at hK3 ⊢
        refine want_plain rfl ?_
        go_simp
        exact hK3
      · intro uu w' hB hv hbx
        have e12 : uu 12 = .int .i64 Q.1 := hv 12 (by decide +kernel) (by decide +kernel)
        obtain ⟨qa_62, qn_62, qc_62, e62, h62_1⟩ := hv 62 (by decide +kernel) (by decide +kernel)
        obtain ⟨m0, em0, gm0, bm0⟩ := hbx _ List.mem_cons_self
        simp only [e62] at bm0
        rw [over_actBL12]
        refine hKs _ _ ?_
        unfold actBL12
        simp only [e12, e62, em0]
        go_wp2_with fail
        go_meet
        exact ⟨m0, qa_62, qn_62, qc_62, rfl, rfl, bm0, h62_1.mono (fun _ _ h => h.imp id And.left), gm0, hB⟩
    case rest =>
    obtain ⟨M, qa, qn, qc, rfl, rfl, bM, hQh, hXM, hBc⟩ := hcut
    have hB2 : Below N w wc := hB1.trans (hBc.mono hNX)
    have f1 := e1.below hBc e1.lt
    have f2 := e2.below hBc e2.lt
    have f3 := e3.below hBc e3.lt
    have hbt2 := hbt.bel hBc
    have hs2 := hBc.size
    have htq : tz.size ≤ 1000 := by have h9 := HQ.out; unfold rightB fewB at h9; simp at h9; exact h9.1.1
    clear e0 e1 e2 e3 hbt hk55 hk48 i0' i1' i2' i3' i4'
    obtain ⟨qe, qt⟩ := Q
    by_cases hq0 : qe = 0
    · subst hq0
      have HPE : Hid (finI (0, .mk (tz :: qt.args) qt.base) = P) := by show _ = _; rw [← HP.out]; rfl
      obtain ⟨Z, hZ⟩ : ∃ Z, wc.heap.size = Z := ⟨_, rfl⟩
      obtain ⟨W3, hW3⟩ : ∃ W3, wc.alloc (.cells #[.slice x1 bn x2, .int .i64 tz.base] 24) = W3 := ⟨_, rfl⟩
      have hb3 : Below wc.heap.size wc W3 := by rw [← hW3]; exact (Below.refl _ _).alloc (Nat.le_refl _) _
      have hB3 : Below N w W3 := hB2.trans (hb3.mono (by have := hB2.size; omega))
      have h3one : Holds W3 (fun b => (b < N ∧ ok b) ∨ w1.heap.size ≤ b) [tz] (.slice (some ⟨Z, 0, none⟩) 1 1) := by
        have h9 := holds_oneOf hbt2 24
        rw [hW3, hZ] at h9
        exact h9.mono fun b _ h => h.imp id fun h => by omega
      have k79 := refArrow_calls qt [tz] (fun b => (b < N ∧ ok b) ∨ w1.heap.size ≤ b) (.slice qa qn qc) (.slice (some ⟨Z, 0, none⟩) 1 1) W3 (hQh.bel hb3) h3one (by have h1 := qt.size_eq; have h2 := sizeL_length qt.args; have h3 : qt.size ≤ 1000 := hQz; simp; omega)
      have q0 := bM.cell 0
      have q1 := bM.cell 1
      have q2 := f1.cell 1
      have q3 := f1.cell 2
      have hQz' : qt.size ≤ 1000 := hQz
      have g2 := f2.below hb3 f2.lt
      have g3 := f3.below hb3 f3.lt
      have hs3 := hb3.size
      have HW3 : Hid _ := hW3
      clear hW3 h3one hbt2 hQh f1 f2 f3 hQz
      go_upto_region 15 with fail
      go_wp2_with fail
      rw [HW3.out]
      refine k79.mono ?_
      clear k79 q0 q1 q2 q3 HW3 bM
      rintro e w4 ⟨v, rfl, hv, hb4⟩
      obtain ⟨va, vc, rfl, _⟩ := hv.shape
      obtain ⟨vn, hvn⟩ : ∃ n, ([tz] ++ qt.args).length = n := ⟨_, rfl⟩
      rw [hvn] at hv ⊢
      have hB4 : Below N w w4 := hB3.trans (hb4.mono (by have := hB3.size; omega))
      have o2 := g2.below hb4 g2.lt
      have o3 := g3.below hb4 g3.lt
      obtain ⟨V0, hV0⟩ : ∃ V0, w4.heap.size = V0 := ⟨_, rfl⟩
      obtain ⟨W5, hW5⟩ : ∃ W5, w4.alloc (.cells #[.slice va vn vc, .int .i64 qt.base] 24) = W5 := ⟨_, rfl⟩
      have hb5 : Below w4.heap.size w4 W5 := by rw [← hW5]; exact (Below.refl _ _).alloc (Nat.le_refl _) _
      have hB5 : Below N w W5 := hB4.trans (hb5.mono (by have := hB4.size; omega))
      have n5 : Blk W5 V0 24 #[.slice va vn vc, .int .i64 qt.base] := by rw [← hW5]; exact Blk.new' w4 V0 24 _ hV0
      have hv5 := hv.bel hb5
      have p2 := o2.below hb5 o2.lt
      have p3 := o3.below hb5 o3.lt
      obtain ⟨T, hT⟩ : ∃ T, Ty.mk (tz :: qt.args) qt.base = T := ⟨_, rfl⟩
      have hTs : T.size ≤ 2001 := by rw [← hT]; show 1 + (tz.size + sizeL qt.args) ≤ 2001; have := qt.size_eq; omega
      have hTa : [tz] ++ qt.args = T.args := by rw [← hT]; rfl
      have hTb : qt.base = T.base := by rw [← hT]; rfl
      rw [hTa] at hv5
      rw [hTb] at n5
      have ksz := Size_calls T _ _ W5 hv5 (by omega)
      have q0 := n5.cell 0
      have q1 := n5.cell 1
      have hs5 := hb5.size
      have hs4 := hb4.size
      have HW5 : Hid _ := hW5
      have HPT : Hid (finI (0, T) = P) := by show _ = _; rw [← HPE.out, hT]
      clear hW5 hv g2 g3 o2 o3 hB2 hB3 hB4 hvn
      rw [hTb] at HW5 ⊢
      clear hTb
      go_upto_region 16 with fail
      rw [HW5.out]
      clear HW5
      go_wp2_with fail
      refine ksz.mono ?_
      rintro e w6 ⟨rfl, hb6⟩
      have hB6 : Below N w w6 := hB5.trans (hb6.mono (by have := n5.lt; omega))
      have r2 := p2.below hb6 p2.lt
      have r3 := p3.below hb6 p3.lt
      have r5 := n5.below hb6 n5.lt
      have hv6 := hv5.bel hb6
      obtain ⟨sz, hsz'⟩ : ∃ s, T.size = s := ⟨_, rfl⟩
      rw [hsz']
      clear ksz q0 q1 p2 p3 n5 hv5
      by_cases hle : sz ≤ 1000
      · have z1 : decide ((sz : Int) > 1000) = false := by simp; omega
        have z2 : decide (1000 < (sz : Int)) = false := by simp; omega
        have HPF : Hid (P = (0, T)) := by show _ = _; rw [← HPT.out]; unfold finI; rw [if_pos rfl, if_pos (by show T.size ≤ 1000; omega)]
        have q0 := r5.cell 0
        have q1 := r5.cell 1
        have z00 := r2.cell 0
        have z11 := r2.cell 1
        have f0 := r2.frozen 0
        have f1 := r2.frozen 1
        have b5 := (r2.set 0 (.slice va vn vc)).set 1 (.int .i64 T.base)
        have o5 : Only [N + 1 + 1] w6 ((w6.setCell ⟨N + 1 + 1, 0, none⟩ (.slice va vn vc)).setCell ⟨N + 1 + 1, 1, none⟩ (.int .i64 T.base)) := ((Only.refl _ _).set (by simp) 0 _).set (by simp) 1 _
        go_wp2
        generalize (w6.setCell ⟨N + 1 + 1, 0, none⟩ (.slice va vn vc)).setCell ⟨N + 1 + 1, 1, none⟩ (.int .i64 T.base) = W5 at *
        have g0 : W5.cell? ⟨N + 1 + 1, 0, none⟩ = some (.slice va vn vc) := b5.cell 0
        have g1 : W5.cell? ⟨N + 1 + 1, 1, none⟩ = some (.int .i64 T.base) := b5.cell 1
        exact bodyPost_ret (v := .tuple #[tv (.slice va vn vc) T.base, .int .i64 0]) (by simp [results, Try.results55, go_sem, g0, g1]) rfl (by unfold RefTold; rw [HPF.out]; exact ⟨va, vn, vc, rfl, hv6.keep fun b hb ho => ⟨o5.block b hb (by simp; omega), by rcases ho with (ho | ho) | ho <;> first | exact .inl ho.2 | exact .inr (by rw [HN.out]; omega)⟩, HN.out ▸ (hB6.trans (o5.below (n := N) (by have := hB6.size; omega) (by simp; omega)))⟩)
      · have z1 : decide ((sz : Int) > 1000) = true := by simp; omega
        have z2 : decide (1000 < (sz : Int)) = true := by simp; omega
        have HPF : Hid (P = (2, zT)) := by show _ = _; rw [← HPT.out]; unfold finI; rw [if_pos rfl, if_neg (by show ¬ T.size ≤ 1000; omega)]
        have q0 := r3.cell 0
        have q1 := r3.cell 1
        have z00 := r2.cell 0
        have z11 := r2.cell 1
        have f0 := r2.frozen 0
        have f1 := r2.frozen 1
        have b5 := (r2.set 0 (.slice none 0 0)).set 1 (.int .i64 0)
        have o5 : Only [N + 1 + 1] w6 ((w6.setCell ⟨N + 1 + 1, 0, none⟩ (.slice none 0 0)).setCell ⟨N + 1 + 1, 1, none⟩ (.int .i64 0)) := ((Only.refl _ _).set (by simp) 0 _).set (by simp) 1 _
        go_wp2
        generalize (w6.setCell ⟨N + 1 + 1, 0, none⟩ (.slice none 0 0)).setCell ⟨N + 1 + 1, 1, none⟩ (.int .i64 0) = W5 at *
        have g0 : W5.cell? ⟨N + 1 + 1, 0, none⟩ = some (.slice none 0 0) := b5.cell 0
        have g1 : W5.cell? ⟨N + 1 + 1, 1, none⟩ = some (.int .i64 0) := b5.cell 1
        exact bodyPost_ret (v := .tuple #[tv (.slice none 0 0) 0, .int .i64 2]) (by simp [results, Try.results55, go_sem, g0, g1]) rfl (by unfold RefTold; rw [HPF.out]; exact ⟨none, 0, 0, rfl, Holds.nil _ _ _ _ (fun _ => rfl), HN.out ▸ (hB6.trans (o5.below (n := N) (by have := hB6.size; omega) (by simp; omega)))⟩)
    · have z1 : (qe == 0) = false := by simp [hq0]
      have z2 : (qe != 0) = true := by simp [hq0]
      have z3 : decide (qe = 0) = false := by simp [hq0]
      have z4 : decide (qe ≠ 0) = true := by simp [hq0]
      have HPF : Hid (P = (qe, zT)) := by show _ = _; rw [← HP.out]; unfold finI lamI; simp [hq0]
      have q0 := f3.cell 0
      have q1 := f3.cell 1
      clear f1 bM hQh hbt2
      have z00 := f2.cell 0
      have z11 := f2.cell 1
      have f00 := f2.frozen 0
      have f11 := f2.frozen 1
      have b5 := (f2.set 0 (.slice none 0 0)).set 1 (.int .i64 0)
      have o5 : Only [N + 1 + 1] wc ((wc.setCell ⟨N + 1 + 1, 0, none⟩ (.slice none 0 0)).setCell ⟨N + 1 + 1, 1, none⟩ (.int .i64 0)) := ((Only.refl _ _).set (by simp) 0 _).set (by simp) 1 _
      go_wp2
      generalize (wc.setCell ⟨N + 1 + 1, 0, none⟩ (.slice none 0 0)).setCell ⟨N + 1 + 1, 1, none⟩ (.int .i64 0) = W5 at *
      have g0 : W5.cell? ⟨N + 1 + 1, 0, none⟩ = some (.slice none 0 0) := b5.cell 0
      have g1 : W5.cell? ⟨N + 1 + 1, 1, none⟩ = some (.int .i64 0) := b5.cell 1
      exact bodyPost_ret (v := .tuple #[tv (.slice none 0 0) 0, .int .i64 qe]) (by simp [results, Try.results55, go_sem, g0, g1]) rfl (by unfold RefTold; rw [HPF.out]; exact ⟨none, 0, 0, rfl, Holds.nil _ _ _ _ (fun _ => rfl), HN.out ▸ (hB2.trans (o5.below (n := N) (by have := hB2.size; omega) (by simp; omega)))⟩)

end Go.Proofs.Ytckagmagjogmnaa
