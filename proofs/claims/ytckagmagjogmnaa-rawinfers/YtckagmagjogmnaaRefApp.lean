/-
  The contract of the document's infer, at an application.
-/
import Derived.Test.YtckagmagjogmnaaRefLam
import Derived.BigQuiet
import Derived.Deep.QuietTactic
import Derived.Lib.QuietBelow
namespace Go.Proofs.Ytckagmagjogmnaa
open Go Go.RowKit Go.Sort

def actBA19 (N : Nat) (a1 : Option Addr) (xn a2 : Nat) (y0 y2 y4 y6 y7 y8 y9 y10 y11 y12 y13 y16 y17 y18 y19 y20 y21 y22 y23 y24 y25 y26 y27 y28 y29 y30 y31 y32 y33 y34 y35 y36 y37 y38 y39 y40 y41 y42 y43 y44 y45 y46 y47 y48 y49 y50 y51 y52 y53 y54 y55 y56 y57 y58 y59 y60 y61 y62 y63 y64 y65 y66 y67 y68 y69 y70 y71 y72 y73 y74 y75 y76 y77 y88 y89 y90 y91 y92 y93 y94 y95 y96 y97 y98 y99 y100 y101 y102 y103 y104 y105 y106 y107 y108 y109 y110 y111 y112 y113 y114 y115 y116 y117 y118 y119 y120 y121 : Value) (u : Nat → Value) : Act :=
  { tmps := #[y0, .slice a1 xn a2, y2, .pointer (some ⟨N, 0, none⟩), y4, .pointer (some ⟨(N + 1), 0, none⟩), y6, y7, y8, y9, y10, y11, y12, y13, u 14, u 15, y16, y17, y18, y19, y20, y21, y22, y23, y24, y25, y26, y27, y28, y29, y30, y31, y32, y33, y34, y35, y36, y37, y38, y39, y40, y41, y42, y43, y44, y45, y46, y47, y48, y49, y50, y51, y52, y53, y54, y55, y56, y57, y58, y59, y60, y61, y62, y63, y64, y65, y66, y67, y68, y69, y70, y71, y72, y73, y74, y75, y76, y77, u 78, u 79, u 80, u 81, u 82, u 83, u 84, u 85, u 86, u 87, y88, y89, y90, y91, y92, y93, y94, y95, y96, y97, y98, y99, y100, y101, y102, y103, y104, y105, y106, y107, y108, y109, y110, y111, y112, y113, y114, y115, y116, y117, y118, y119, y120, y121], defers := [] }
set_option maxRecDepth 100000 in
theorem over_actBA19 (N : Nat) (a1 : Option Addr) (xn a2 : Nat) (y0 y2 y4 y6 y7 y8 y9 y10 y11 y12 y13 y16 y17 y18 y19 y20 y21 y22 y23 y24 y25 y26 y27 y28 y29 y30 y31 y32 y33 y34 y35 y36 y37 y38 y39 y40 y41 y42 y43 y44 y45 y46 y47 y48 y49 y50 y51 y52 y53 y54 y55 y56 y57 y58 y59 y60 y61 y62 y63 y64 y65 y66 y67 y68 y69 y70 y71 y72 y73 y74 y75 y76 y77 y88 y89 y90 y91 y92 y93 y94 y95 y96 y97 y98 y99 y100 y101 y102 y103 y104 y105 y106 y107 y108 y109 y110 y111 y112 y113 y114 y115 y116 y117 y118 y119 y120 y121 : Value) (u0 u : Nat → Value) : over (fun s => (Nat.ble 14 s && Nat.ble s 15) || (Nat.ble 78 s && Nat.ble s 87)) u (actBA19 N a1 xn a2 y0 y2 y4 y6 y7 y8 y9 y10 y11 y12 y13 y16 y17 y18 y19 y20 y21 y22 y23 y24 y25 y26 y27 y28 y29 y30 y31 y32 y33 y34 y35 y36 y37 y38 y39 y40 y41 y42 y43 y44 y45 y46 y47 y48 y49 y50 y51 y52 y53 y54 y55 y56 y57 y58 y59 y60 y61 y62 y63 y64 y65 y66 y67 y68 y69 y70 y71 y72 y73 y74 y75 y76 y77 y88 y89 y90 y91 y92 y93 y94 y95 y96 y97 y98 y99 y100 y101 y102 y103 y104 y105 y106 y107 y108 y109 y110 y111 y112 y113 y114 y115 y116 y117 y118 y119 y120 y121 u0) = actBA19 N a1 xn a2 y0 y2 y4 y6 y7 y8 y9 y10 y11 y12 y13 y16 y17 y18 y19 y20 y21 y22 y23 y24 y25 y26 y27 y28 y29 y30 y31 y32 y33 y34 y35 y36 y37 y38 y39 y40 y41 y42 y43 y44 y45 y46 y47 y48 y49 y50 y51 y52 y53 y54 y55 y56 y57 y58 y59 y60 y61 y62 y63 y64 y65 y66 y67 y68 y69 y70 y71 y72 y73 y74 y75 y76 y77 y88 y89 y90 y91 y92 y93 y94 y95 y96 y97 y98 y99 y100 y101 y102 y103 y104 y105 y106 y107 y108 y109 y110 y111 y112 y113 y114 y115 y116 y117 y118 y119 y120 y121 u := rfl
def VBA19 (N X xn : Nat) (oko : Nat → Prop) (bs : Int) (u : Rw) (Q : Int × Ty) (a1 c1 m1 sa sd : Option Addr) (a2 cn c2 mn m2 un sc kn se x4 g o : Nat) (s : Nat) (w : World) (ok : Nat → Prop) (v : Value) : Prop := match s with
  | 79 => v = wov bs (.slice c1 cn c2) (.slice m1 mn m2)
  | 80 => v = .slice a1 xn a2
  | 81 => v = .pointer (some ⟨N + 1, 4, none⟩)
  | 82 => v = .slice (some ⟨g, o, none⟩) 2 x4
  | 83 => v = .pointer (some ⟨g, o, none⟩)
  | 84 => v = rwv u.kind (.slice sa un sc) u.ty.base u.idx (.slice sd kn se)
  | 85 => ∃ qa qn qc, v = .tuple #[tv (.slice qa qn qc) Q.2.base, .int .i64 Q.1] ∧ Holds w (Mix N X oko ok) Q.2.args (.slice qa qn qc)
  | 78 => ∃ qa qn qc, v = .tuple #[tv (.slice qa qn qc) Q.2.base, .int .i64 Q.1] ∧ Holds w (Mix N X oko ok) Q.2.args (.slice qa qn qc)
  | 86 => ∃ qa qn qc, v = tv (.slice qa qn qc) Q.2.base ∧ Holds w (Mix N X oko ok) Q.2.args (.slice qa qn qc)
  | 87 => v = .int .i64 Q.1
  | 15 => v = .int .i64 Q.1
  | _ => True
theorem VBA19.keep (N X xn : Nat) (oko : Nat → Prop) (bs : Int) (u : Rw) (Q : Int × Ty) (a1 c1 m1 sa sd : Option Addr) (a2 cn c2 mn m2 un sc kn se x4 g o : Nat) (W : World) (hN : X = W.heap.size) (hNX : N ≤ W.heap.size) (s : Nat) (w w' : World) (ok ok' : Nat → Prop) (v : Value) (h : VBA19 N X xn oko bs u Q a1 c1 m1 sa sd a2 cn c2 mn m2 un sc kn se x4 g o s w ok v) (hb1 : Below W.heap.size W w) (hb2 : Below W.heap.size W w') (hsz : w.heap.size ≤ w'.heap.size) (hkp : ∀ m, m < w.heap.size → ok m → w'.heap[m]? = w.heap[m]? ∧ ok' m) : VBA19 N X xn oko bs u Q a1 c1 m1 sa sd a2 cn c2 mn m2 un sc kn se x4 g o s w' ok' v := by
  have _ := hsz
  subst hN
  have _ := hb1
  have _ := hb2
  have _ := hkp
  revert h
  unfold VBA19
  split <;> intro h
  · exact h
  · exact h
  · exact h
  · exact h
  · exact h
  · exact h
  · obtain ⟨qa, qn, qc, e0, h1⟩ := h; exact ⟨qa, qn, qc, e0, h1.mixkeep hNX hb1 hb2 hkp⟩
  · obtain ⟨qa, qn, qc, e0, h1⟩ := h; exact ⟨qa, qn, qc, e0, h1.mixkeep hNX hb1 hb2 hkp⟩
  · obtain ⟨qa, qn, qc, e0, h1⟩ := h; exact ⟨qa, qn, qc, e0, h1.mixkeep hNX hb1 hb2 hkp⟩
  · exact h
  · exact h
  · trivial

def actBA22 (N : Nat) (a1 : Option Addr) (xn a2 : Nat) (y0 y2 y4 y6 y7 y8 y9 y10 y11 y12 y13 y14 y15 y18 y19 y20 y21 y22 y23 y24 y25 y26 y27 y28 y29 y30 y31 y32 y33 y34 y35 y36 y37 y38 y39 y40 y41 y42 y43 y44 y45 y46 y47 y48 y49 y50 y51 y52 y53 y54 y55 y56 y57 y58 y59 y60 y61 y62 y63 y64 y65 y66 y67 y68 y69 y70 y71 y72 y73 y74 y75 y76 y77 y78 y79 y80 y81 y82 y83 y84 y85 y86 y87 y88 y89 y90 y91 y102 y103 y104 y105 y106 y107 y108 y109 y110 y111 y112 y113 y114 y115 y116 y117 y118 y119 y120 y121 : Value) (u : Nat → Value) : Act :=
  { tmps := #[y0, .slice a1 xn a2, y2, .pointer (some ⟨N, 0, none⟩), y4, .pointer (some ⟨(N + 1), 0, none⟩), y6, y7, y8, y9, y10, y11, y12, y13, y14, y15, u 16, u 17, y18, y19, y20, y21, y22, y23, y24, y25, y26, y27, y28, y29, y30, y31, y32, y33, y34, y35, y36, y37, y38, y39, y40, y41, y42, y43, y44, y45, y46, y47, y48, y49, y50, y51, y52, y53, y54, y55, y56, y57, y58, y59, y60, y61, y62, y63, y64, y65, y66, y67, y68, y69, y70, y71, y72, y73, y74, y75, y76, y77, y78, y79, y80, y81, y82, y83, y84, y85, y86, y87, y88, y89, y90, y91, u 92, u 93, u 94, u 95, u 96, u 97, u 98, u 99, u 100, u 101, y102, y103, y104, y105, y106, y107, y108, y109, y110, y111, y112, y113, y114, y115, y116, y117, y118, y119, y120, y121], defers := [] }
set_option maxRecDepth 100000 in
theorem over_actBA22 (N : Nat) (a1 : Option Addr) (xn a2 : Nat) (y0 y2 y4 y6 y7 y8 y9 y10 y11 y12 y13 y14 y15 y18 y19 y20 y21 y22 y23 y24 y25 y26 y27 y28 y29 y30 y31 y32 y33 y34 y35 y36 y37 y38 y39 y40 y41 y42 y43 y44 y45 y46 y47 y48 y49 y50 y51 y52 y53 y54 y55 y56 y57 y58 y59 y60 y61 y62 y63 y64 y65 y66 y67 y68 y69 y70 y71 y72 y73 y74 y75 y76 y77 y78 y79 y80 y81 y82 y83 y84 y85 y86 y87 y88 y89 y90 y91 y102 y103 y104 y105 y106 y107 y108 y109 y110 y111 y112 y113 y114 y115 y116 y117 y118 y119 y120 y121 : Value) (u0 u : Nat → Value) : over (fun s => (Nat.ble 16 s && Nat.ble s 17) || (Nat.ble 92 s && Nat.ble s 101)) u (actBA22 N a1 xn a2 y0 y2 y4 y6 y7 y8 y9 y10 y11 y12 y13 y14 y15 y18 y19 y20 y21 y22 y23 y24 y25 y26 y27 y28 y29 y30 y31 y32 y33 y34 y35 y36 y37 y38 y39 y40 y41 y42 y43 y44 y45 y46 y47 y48 y49 y50 y51 y52 y53 y54 y55 y56 y57 y58 y59 y60 y61 y62 y63 y64 y65 y66 y67 y68 y69 y70 y71 y72 y73 y74 y75 y76 y77 y78 y79 y80 y81 y82 y83 y84 y85 y86 y87 y88 y89 y90 y91 y102 y103 y104 y105 y106 y107 y108 y109 y110 y111 y112 y113 y114 y115 y116 y117 y118 y119 y120 y121 u0) = actBA22 N a1 xn a2 y0 y2 y4 y6 y7 y8 y9 y10 y11 y12 y13 y14 y15 y18 y19 y20 y21 y22 y23 y24 y25 y26 y27 y28 y29 y30 y31 y32 y33 y34 y35 y36 y37 y38 y39 y40 y41 y42 y43 y44 y45 y46 y47 y48 y49 y50 y51 y52 y53 y54 y55 y56 y57 y58 y59 y60 y61 y62 y63 y64 y65 y66 y67 y68 y69 y70 y71 y72 y73 y74 y75 y76 y77 y78 y79 y80 y81 y82 y83 y84 y85 y86 y87 y88 y89 y90 y91 y102 y103 y104 y105 y106 y107 y108 y109 y110 y111 y112 y113 y114 y115 y116 y117 y118 y119 y120 y121 u := rfl
def VBA22 (N X xn : Nat) (oko : Nat → Prop) (bs : Int) (u : Rw) (Q : Int × Ty) (a1 c1 m1 sa sd : Option Addr) (a2 cn c2 mn m2 un sc kn se x4 g o : Nat) (s : Nat) (w : World) (ok : Nat → Prop) (v : Value) : Prop := match s with
  | 93 => v = wov bs (.slice c1 cn c2) (.slice m1 mn m2)
  | 94 => v = .slice a1 xn a2
  | 95 => v = .pointer (some ⟨N + 1, 4, none⟩)
  | 96 => v = .slice (some ⟨g, o, none⟩) 2 x4
  | 97 => v = .pointer (some ⟨g, o + 5, none⟩)
  | 98 => v = rwv u.kind (.slice sa un sc) u.ty.base u.idx (.slice sd kn se)
  | 99 => ∃ qa qn qc, v = .tuple #[tv (.slice qa qn qc) Q.2.base, .int .i64 Q.1] ∧ Holds w (Mix N X oko ok) Q.2.args (.slice qa qn qc)
  | 92 => ∃ qa qn qc, v = .tuple #[tv (.slice qa qn qc) Q.2.base, .int .i64 Q.1] ∧ Holds w (Mix N X oko ok) Q.2.args (.slice qa qn qc)
  | 100 => ∃ qa qn qc, v = tv (.slice qa qn qc) Q.2.base ∧ Holds w (Mix N X oko ok) Q.2.args (.slice qa qn qc)
  | 101 => v = .int .i64 Q.1
  | 17 => v = .int .i64 Q.1
  | _ => True
theorem VBA22.keep (N X xn : Nat) (oko : Nat → Prop) (bs : Int) (u : Rw) (Q : Int × Ty) (a1 c1 m1 sa sd : Option Addr) (a2 cn c2 mn m2 un sc kn se x4 g o : Nat) (W : World) (hN : X = W.heap.size) (hNX : N ≤ W.heap.size) (s : Nat) (w w' : World) (ok ok' : Nat → Prop) (v : Value) (h : VBA22 N X xn oko bs u Q a1 c1 m1 sa sd a2 cn c2 mn m2 un sc kn se x4 g o s w ok v) (hb1 : Below W.heap.size W w) (hb2 : Below W.heap.size W w') (hsz : w.heap.size ≤ w'.heap.size) (hkp : ∀ m, m < w.heap.size → ok m → w'.heap[m]? = w.heap[m]? ∧ ok' m) : VBA22 N X xn oko bs u Q a1 c1 m1 sa sd a2 cn c2 mn m2 un sc kn se x4 g o s w' ok' v := by
  have _ := hsz
  subst hN
  have _ := hb1
  have _ := hb2
  have _ := hkp
  revert h
  unfold VBA22
  split <;> intro h
  · exact h
  · exact h
  · exact h
  · exact h
  · exact h
  · exact h
  · obtain ⟨qa, qn, qc, e0, h1⟩ := h; exact ⟨qa, qn, qc, e0, h1.mixkeep hNX hb1 hb2 hkp⟩
  · obtain ⟨qa, qn, qc, e0, h1⟩ := h; exact ⟨qa, qn, qc, e0, h1.mixkeep hNX hb1 hb2 hkp⟩
  · obtain ⟨qa, qn, qc, e0, h1⟩ := h; exact ⟨qa, qn, qc, e0, h1.mixkeep hNX hb1 hb2 hkp⟩
  · exact h
  · exact h
  · trivial

set_option maxRecDepth 100000 in
set_option maxHeartbeats 3200000 in
theorem refInf_app (r f a : Rw) (hkd : r.kind = 4) (hks : r.kids = [f, a]) (hIf : RefInfAt f) (hIa : RefInfAt a) : RefInfAt r := by
  intro cs ms ctx bs cv mv xv sb sr ok w hc hm hx hb hr hcs hms hxs hlen
  have hrs := r.size_eq
  rw [hks] at hr hrs
  obtain ⟨c1, c2, rfl, _⟩ := hc.shape
  obtain ⟨m1, m2, rfl, _⟩ := hm.shape
  obtain ⟨a1, a2, rfl, _⟩ := hx.shape
  obtain ⟨x1, x2, rfl, _⟩ := hb.shape
  obtain ⟨x3, x4, rfl, _, hat⟩ := hr.shape
  obtain ⟨g, o, s1, r1, rfl, hgo, hg, i0, i1, i2, i3, i4, hs1, hsr1⟩ := hat 0 f rfl
  obtain ⟨g', o', s2, r2, hgg, _, _, j0, j1, j2, j3, j4, hs2, hsr2⟩ := hat 1 a rfl
  cases hgg
  obtain ⟨sa, sc, rfl, _⟩ := hs1.shape
  obtain ⟨sd, se, rfl, _⟩ := hsr1.shape
  obtain ⟨ta, tc, rfl, _⟩ := hs2.shape
  obtain ⟨td, te, rfl, _⟩ := hsr2.shape
  rw [show o + 0 * 5 = o by omega] at i0 i1 i2 i3 i4
  rw [show o + 1 * 5 = o + 5 by omega] at j0 j1 j2 j3 j4
  have hfz : ctx.length + f.size ≤ 900 := by simp only [sizeR] at hrs; omega
  have haz : ctx.length + a.size ≤ 900 := by simp only [sizeR] at hrs; omega
  obtain ⟨N, hN⟩ : ∃ N, w.heap.size = N := ⟨_, rfl⟩
  have HN : Hid (w.heap.size = N) := hN
  have hinf : r.inf bs cs ms ctx = finI (appI [f.inf bs cs ms ctx, a.inf bs cs ms ctx]) := by rw [r.inf_eq]; unfold Rw.ofI; rw [if_neg (by omega), if_pos hkd, hks]; rfl
  obtain ⟨P, hP⟩ : ∃ P, r.inf bs cs ms ctx = P := ⟨_, rfl⟩
  obtain ⟨F, hF⟩ : ∃ F, f.inf bs cs ms ctx = F := ⟨_, rfl⟩
  obtain ⟨A, hA⟩ : ∃ A, a.inf bs cs ms ctx = A := ⟨_, rfl⟩
  have HP : Hid (finI (appI [F, A]) = P) := by show _ = _; rw [← hF, ← hA, ← hinf, hP]
  have hFz := f.inf_size bs cs ms ctx
  rw [hF] at hFz
  have hAz := a.inf_size bs cs ms ctx
  rw [hA] at hAz
  rw [hP, hkd]
  have hok : ∀ b, b < w.heap.size → ok b → b < N ∧ ok b := fun b hb ho => ⟨hN ▸ hb, ho⟩
  have hc' := hc.mono hok
  have hm' := hm.mono hok
  have hx' := hx.mono hok
  have hs' := hs1.mono hok
  have hsr' := hsr1.mono hok
  have ht' := hs2.mono hok
  have htr' := hsr2.mono hok
  have hgN : g < N := hN ▸ hg
  have kF := fun (cur : World) (h1 : Below N w cur) => hIf cs ms ctx bs (.slice c1 cs.length c2) (.slice m1 ms.length m2) (.slice a1 ctx.length a2) (.slice sa f.ty.args.length sc) (.slice sd f.kids.length se) (fun b => b < N ∧ ok b) cur
    (hc'.bel (hN ▸ h1)) (hm'.bel (hN ▸ h1)) (hx'.bel (hN ▸ h1)) (hs'.bel (hN ▸ h1)) (hsr'.bel (hN ▸ h1)) hcs hms hxs hfz
  have kA := fun (cur : World) (h1 : Below N w cur) => hIa cs ms ctx bs (.slice c1 cs.length c2) (.slice m1 ms.length m2) (.slice a1 ctx.length a2) (.slice ta a.ty.args.length tc) (.slice td a.kids.length te) (fun b => b < N ∧ ok b) cur
    (hc'.bel (hN ▸ h1)) (hm'.bel (hN ▸ h1)) (hx'.bel (hN ▸ h1)) (ht'.bel (hN ▸ h1)) (htr'.bel (hN ▸ h1)) hcs hms hxs haz
  simp only [hF] at kF
  simp only [hA] at kA
  clear hinf
  have h1l : [f, a].length = 2 := rfl
  rw [h1l]
  obtain ⟨cn, hcn⟩ : ∃ n, cs.length = n := ⟨_, rfl⟩
  obtain ⟨mn, hmn⟩ : ∃ n, ms.length = n := ⟨_, rfl⟩
  obtain ⟨xn, hxn⟩ : ∃ n, ctx.length = n := ⟨_, rfl⟩
  obtain ⟨un, hun⟩ : ∃ n, f.ty.args.length = n := ⟨_, rfl⟩
  obtain ⟨kn, hkn⟩ : ∃ n, f.kids.length = n := ⟨_, rfl⟩
  obtain ⟨vn, hvn⟩ : ∃ n, a.ty.args.length = n := ⟨_, rfl⟩
  obtain ⟨ln, hln⟩ : ∃ n, a.kids.length = n := ⟨_, rfl⟩
  simp only [hcn, hmn, hxn, hun, hkn] at kF
  simp only [hcn, hmn, hxn, hvn, hln] at kA
  rw [hun] at i1
  rw [hkn] at i4
  rw [hvn] at j1
  rw [hln] at j4
  simp only [hcn, hmn, hxn]
  generalize r.ty.args.length = bn at *
  clear hc hm hx hb hr hP hs1 hsr1 hs2 hsr2 hc' hm' hx' hs' hsr' ht' htr' hIf hIa hxs hcs hms hlen hkd hks hrs hcn hmn hxn hun hkn hvn hln hat hfz haz h1l hF hA hok
  obtain ⟨W0, hW0⟩ : ∃ W0, (((w.alloc (.cells #[.int .i64 bs, .slice c1 cn c2, .slice m1 mn m2] 47)).alloc (.cells #[.int .i64 4, .slice x1 bn x2, .int .i64 r.ty.base, .int .i64 r.idx, .slice (some ⟨g, o, none⟩) 2 x4] 27)).alloc (.cells #[.slice none 0 0, .int .i64 0] 24)).alloc (.cells #[.slice none 0 0, .int .i64 0] 24) = W0 := ⟨_, rfl⟩
  have e0 : Blk W0 N 47 #[.int .i64 bs, .slice c1 cn c2, .slice m1 mn m2] := by rw [← hW0]; exact (((Blk.new' w N 47 _ hN).alloc _).alloc _).alloc _
  have e1 : Blk W0 (N + 1) 27 #[.int .i64 4, .slice x1 bn x2, .int .i64 r.ty.base, .int .i64 r.idx, .slice (some ⟨g, o, none⟩) 2 x4] := by rw [← hW0]; exact ((Blk.new' _ (N + 1) 27 _ (by simp [hN])).alloc _).alloc _
  have e2 : Blk W0 (N + 1 + 1) 24 #[.slice none 0 0, .int .i64 0] := by rw [← hW0]; exact (Blk.new' _ (N + 1 + 1) 24 _ (by simp [hN])).alloc _
  have e3 : Blk W0 (N + 1 + 1 + 1) 24 #[.slice none 0 0, .int .i64 0] := by rw [← hW0]; exact Blk.new' _ (N + 1 + 1 + 1) 24 _ (by simp [hN])
  have hB1 : Below N w W0 := by rw [← hW0]; exact ((((Below.refl N w).alloc (by omega) _).alloc (by simp; omega) _).alloc (by simp; omega) _).alloc (by simp; omega) _
  have HW : Hid _ := hW0
  have d0 := e1.cell 0
  have hl1 : N + 1 + 1 + 1 < W0.heap.size := e3.lt
  have hNX : N ≤ W0.heap.size := by omega
  have i0' := (cat hB1 hgN).trans i0
  have i1' := (cat hB1 hgN).trans i1
  have i2' := (cat hB1 hgN).trans i2
  have i3' := (cat hB1 hgN).trans i3
  have i4' := (cat hB1 hgN).trans i4
  have j0' := (cat hB1 hgN).trans j0
  have j1' := (cat hB1 hgN).trans j1
  have j2' := (cat hB1 hgN).trans j2
  have j3' := (cat hB1 hgN).trans j3
  have j4' := (cat hB1 hgN).trans j4
  have hgX : g < W0.heap.size := by omega
  clear hW0 i0 i1 i2 i3 i4 j0 j1 j2 j3 j4
  go_enter Try.func55, Try.ntmps55
  go_upto_region 19 with fail
  rw [HW.out]
  clear HW
  clear d0
  go_cut [14, 15] (fun s14 s15 wx => ∃ (M : Nat) (qa : Option Addr) (qn qc : Nat), s14 = .pointer (some ⟨M, 0, none⟩) ∧ s15 = .int .i64 F.1 ∧ Blk wx M 24 #[.slice qa qn qc, .int .i64 F.2.base] ∧ Holds wx (fun b => (b < N ∧ ok b) ∨ W0.heap.size ≤ b) F.2.args (.slice qa qn qc) ∧ W0.heap.size ≤ M ∧ Below W0.heap.size W0 wx)
  case first =>
    rename_i K Q' hKs
    refine (wpIn_wide (n := 9)).1 ?_
    show Code.wpIn Fence.wide 9 Try.prog (Code.region 19 _ true) _ (actBA19 N a1 xn a2 (wov bs (.slice c1 cn c2) (.slice m1 mn m2)) (rwv 4 (.slice x1 bn x2) r.ty.base r.idx (.slice (some ⟨g, o, none⟩) 2 x4)) (undef) (.pointer (some ⟨N + 1 + 1, 0, none⟩)) (.int .i64 0) (.pointer (some ⟨N + 1 + 1 + 1, 0, none⟩)) (undef) (undef) (undef) (undef) (undef) (undef) (undef) (.pointer (some ⟨N + 1, 0, none⟩)) (.int .i64 4) (.bool false) (undef) (undef) (undef) (undef) (undef) (undef) (undef) (undef) (undef) (undef) (undef) (undef) (undef) (undef) (undef) (undef) (undef) (undef) (undef) (.pointer (some ⟨N + 1, 0, none⟩)) (.int .i64 4) (.bool false) (undef) (undef) (undef) (undef) (undef) (undef) (undef) (undef) (undef) (undef) (undef) (undef) (undef) (undef) (undef) (undef) (undef) (undef) (undef) (undef) (undef) (undef) (undef) (undef) (undef) (undef) (undef) (undef) (undef) (undef) (undef) (undef) (undef) (undef) (undef) (undef) (undef) (undef) (undef) (undef) (undef) (undef) (undef) (undef) (undef) (undef) (undef) (undef) (undef) (undef) (undef) (undef) (undef) (undef) (undef) (undef) (undef) (undef) (undef) (undef) (undef) (undef) (undef) (undef) (undef) (undef) (undef) (undef) (undef) (fun | 14 => undef | 15 => undef | 78 => undef | 79 => undef | 80 => undef | 81 => undef | 82 => undef | 83 => undef | 84 => undef | 85 => undef | 86 => undef | 87 => undef | _ => undef)) W0
    refine region_boxesK [(0, 0), (1, 0), (2, 0), (3, 0), (4, 0), (5, 0), (6, 0), (7, 0), (8, 0), (9, 1), (12, 1)] [⟨14, 86, 24, #[.slice none 0 0, .int .i64 0], 10, 0, 11⟩] (fun s => (Nat.ble 14 s && Nat.ble s 15) || (Nat.ble 78 s && Nat.ble s 87)) (VBA19 N W0.heap.size xn ok bs f F a1 c1 m1 sa sd a2 cn c2 mn m2 un sc kn se x4 g o) (by kernel_rfl) (by kernel_rfl) (by kernel_rfl) (by kernel_rfl) (by kernel_rfl) (by kernel_rfl) (by kernel_rfl) (VBA19.keep N W0.heap.size xn ok bs f F a1 c1 m1 sa sd a2 cn c2 mn m2 un sc kn se x4 g o W0 rfl hNX) ⟨?_, ?_, ?_, ?_, ?_, ?_, ?_, ?_, ?_, ?_, ?_, trivial⟩ ⟨⟨?_, ?_⟩, trivial⟩ ?_
    · intro oo ho uu okk w hB hk K' hK
      cases ho
      have g0 := (cat hB e0.lt).trans (e0.cell 0)
      have g1 := (cat hB e0.lt).trans (e0.cell 1)
      have g2 := (cat hB e0.lt).trans (e0.cell 2)
      have hK3 := hK (wov bs (.slice c1 cn c2) (.slice m1 mn m2)) w (fun s hs => by cases hs; exact rfl) (Below.refl _ _)
      simp only [over_actBA19] at hK3 ⊢
      clear hK hk
      unfold actBA19 at hK3 ⊢
      refine want_plain rfl ?_
      go_simp
      exact hK3
    · intro oo ho uu okk w hB hk K' hK
      cases ho
      have hK3 := hK (.slice a1 xn a2) w (fun s hs => by cases hs; exact rfl) (Below.refl _ _)
      simp only [over_actBA19] at hK3 ⊢
      clear hK hk
      unfold actBA19 at hK3 ⊢
      refine want_plain rfl ?_
      go_simp
      exact hK3
    · intro oo ho uu okk w hB hk K' hK
      cases ho
      have hK3 := hK (.pointer (some ⟨N + 1, 4, none⟩)) w (fun s hs => by cases hs; exact rfl) (Below.refl _ _)
      simp only [over_actBA19] at hK3 ⊢
      clear hK hk
      unfold actBA19 at hK3 ⊢
      refine want_plain rfl ?_
      go_simp
      exact hK3
    · intro oo ho uu okk w hB hk K' hK
      cases ho
      have e81 : uu 81 = .pointer (some ⟨N + 1, 4, none⟩) := hk 81 (by decide +kernel) rfl
      have g4 := (cat hB e1.lt).trans (e1.cell 4)
      have hK3 := hK (.slice (some ⟨g, o, none⟩) 2 x4) w (fun s hs => by cases hs; exact rfl) (Below.refl _ _)
      simp only [over_actBA19] at hK3 ⊢
      clear hK hk
      unfold actBA19 at hK3 ⊢
      simp only [e81] at hK3 ⊢
      refine want_plain rfl ?_
      go_simp
      exact hK3
    · intro oo ho uu okk w hB hk K' hK
      cases ho
      have e82 : uu 82 = .slice (some ⟨g, o, none⟩) 2 x4 := hk 82 (by decide +kernel) rfl
      have hK3 := hK (.pointer (some ⟨g, o, none⟩)) w (fun s hs => by cases hs; exact rfl) (Below.refl _ _)
      simp only [over_actBA19] at hK3 ⊢
      clear hK hk
      unfold actBA19 at hK3 ⊢
      simp only [e82] at hK3 ⊢
      refine want_plain rfl ?_
      go_simp
      exact hK3
    · intro oo ho uu okk w hB hk K' hK
      cases ho
      have e83 : uu 83 = .pointer (some ⟨g, o, none⟩) := hk 83 (by decide +kernel) rfl
      have g0 := (cat hB hgX).trans i0'
      have g1 := (cat hB hgX).trans i1'
      have g2 := (cat hB hgX).trans i2'
      have g3 := (cat hB hgX).trans i3'
      have g4 := (cat hB hgX).trans i4'
      have hK3 := hK (rwv f.kind (.slice sa un sc) f.ty.base f.idx (.slice sd kn se)) w (fun s hs => by cases hs; exact rfl) (Below.refl _ _)
      simp only [over_actBA19] at hK3 ⊢
      clear hK hk
      unfold actBA19 at hK3 ⊢
      simp only [e83] at hK3 ⊢
      refine want_plain rfl ?_
      go_simp
      exact hK3
    · intro oo ho uu okk w hB hk K' hK
      cases ho
      have e79 : uu 79 = wov bs (.slice c1 cn c2) (.slice m1 mn m2) := hk 79 (by decide +kernel) rfl
      have e80 : uu 80 = .slice a1 xn a2 := hk 80 (by decide +kernel) rfl
      have e84 : uu 84 = rwv f.kind (.slice sa un sc) f.ty.base f.idx (.slice sd kn se) := hk 84 (by decide +kernel) rfl
      have hcall := kF w (hB1.trans (hB.mono hNX))
      have hK3 := fun (w2 : World) (qa : Option Addr) (qn qc : Nat) (h1 : Holds w2 (Mix N W0.heap.size ok fun m => w.heap.size ≤ m ∨ okk m) F.2.args (.slice qa qn qc)) (hb2 : Below w.heap.size w w2) => hK (.tuple #[tv (.slice qa qn qc) F.2.base, .int .i64 F.1]) w2 (fun s hs => by cases hs; exact ⟨qa, qn, qc, rfl, h1⟩) hb2
      simp only [over_actBA19] at hK3 ⊢
      clear hK hk
      unfold actBA19 at hK3 ⊢
      simp only [e79, e80, e84] at hK3 ⊢
      refine want_plain rfl ?_
      go_simp
      refine ⟨trivial, (callsIn_wide.2 hcall).mono ?_⟩
      rintro e w2 ⟨qa, qn, qc, rfl, h1, hbw⟩
      exact hK3 w2 qa qn qc (h1.mono (fun _ _ h => Mix.into hB (h.imp (fun h => .inl h) id))) hbw
    · intro oo ho uu okk w hB hk K' hK
      cases ho
      obtain ⟨qa_85, qn_85, qc_85, e85, h85_1⟩ := hk 85 (by decide +kernel) rfl
      have hK3 := hK (.tuple #[tv (.slice qa_85 qn_85 qc_85) F.2.base, .int .i64 F.1]) w (fun s hs => by cases hs; exact ⟨qa_85, qn_85, qc_85, rfl, h85_1.mono (fun _ _ h => Mix.into hB (.inl h))⟩) (Below.refl _ _)
      simp only [over_actBA19] at hK3 ⊢
      clear hK hk
      unfold actBA19 at hK3 ⊢
      simp only [e85] at hK3 ⊢
      refine want_plain rfl ?_
      go_simp
      exact hK3
    · intro oo ho uu okk w hB hk K' hK
      cases ho
      obtain ⟨qa_78, qn_78, qc_78, e78, h78_1⟩ := hk 78 (by decide +kernel) rfl
      have hK3 := hK (tv (.slice qa_78 qn_78 qc_78) F.2.base) w (fun s hs => by cases hs; exact ⟨qa_78, qn_78, qc_78, rfl, h78_1.mono (fun _ _ h => Mix.into hB (.inl h))⟩) (Below.refl _ _)
      simp only [over_actBA19] at hK3 ⊢
      clear hK hk
      unfold actBA19 at hK3 ⊢
      simp only [e78] at hK3 ⊢
      refine want_plain rfl ?_
      go_simp
      exact hK3
    · intro oo ho uu okk w hB hk K' hK
      cases ho
      obtain ⟨qa_78, qn_78, qc_78, e78, h78_1⟩ := hk 78 (by decide +kernel) rfl
      have hK3 := hK (.int .i64 F.1) w (fun s hs => by cases hs; exact rfl) (Below.refl _ _)
      simp only [over_actBA19] at hK3 ⊢
      clear hK hk
      unfold actBA19 at hK3 ⊢
      simp only [e78] at hK3 ⊢
      refine want_plain rfl ?_
      go_simp
      exact hK3
    · intro oo ho uu okk w hB hk K' hK
      cases ho
      have e87 : uu 87 = .int .i64 F.1 := hk 87 (by decide +kernel) rfl
      have hK3 := hK (.int .i64 F.1) w (fun s hs => by cases hs; exact rfl) (Below.refl _ _)
      simp only [over_actBA19] at hK3 ⊢
      clear hK hk
      unfold actBA19 at hK3 ⊢
      simp only [e87] at hK3 ⊢
      refine want_plain rfl ?_
      go_simp
      exact hK3
    · intro oo ho uu w K' hK
      cases ho
      simp only [over_actBA19] at hK ⊢
      unfold actBA19 at hK ⊢
      refine want_plain rfl ?_
      go_simp
      exact hK
    · intro oo ho uu okk w m hm hb hv K' hK
      cases ho
      dsimp only at hm hb hv hK
      obtain ⟨w00, ok00, hv⟩ := hv
      obtain ⟨qa, qn, qc, e86, h1⟩ := hv
      have fz0 := hb.frozen 0
      have cz0 := hb.cell 0
      have fz1 := hb.frozen 1
      have cz1 := hb.cell 1
      have b9 := ((hb.set 0 (.slice qa qn qc)).set 1 (.int .i64 F.2.base))
      have o9 := (((Only.refl [m] w).set (B := m) (by simp) 0 (.slice qa qn qc)).set (B := m) (by simp) 1 (.int .i64 F.2.base))
      rw [e86] at hK
      have hK3 := hK _ b9 o9
      simp only [over_actBA19] at hK3 ⊢
      clear hK b9 o9
      unfold actBA19 at hK3 ⊢
      simp only [hm, e86] at hK3 ⊢
      refine want_plain rfl ?_
      go_simp
      exact hK3
    · intro uu w' hB hv hbx
      have e15 : uu 15 = .int .i64 F.1 := hv 15 (by decide +kernel) (by decide +kernel)
      obtain ⟨qa_86, qn_86, qc_86, e86, h86_1⟩ := hv 86 (by decide +kernel) (by decide +kernel)
      obtain ⟨m0, em0, gm0, bm0⟩ := hbx _ List.mem_cons_self
      simp only [e86] at bm0
      rw [over_actBA19]
      refine hKs _ _ ?_
      unfold actBA19
      simp only [e15, e86, em0]
      go_wp2_with fail
      go_meet
      exact ⟨m0, qa_86, qn_86, qc_86, rfl, rfl, bm0, h86_1.mono (fun _ _ h => h.imp id And.left), gm0, hB⟩
  case rest =>
  obtain ⟨M, qa, qn, qc, rfl, rfl, bM, hFh, hXM, hBc⟩ := hcut
  have hB2 : Below N w wc := hB1.trans (hBc.mono hNX)
  have f0 := e0.below hBc e0.lt
  have f1 := e1.below hBc e1.lt
  have f2 := e2.below hBc e2.lt
  have f3 := e3.below hBc e3.lt
  have hl2 : N + 1 + 1 + 1 < wc.heap.size := f3.lt
  have hMl := bM.lt
  have hXc := hBc.size
  clear e0 e1 e2 e3 kF i0' i1' i2' i3' i4'
  obtain ⟨fe, ft⟩ := F
  by_cases hf0 : fe = 0
  · subst hf0
    have J0 := (cat hBc hgX).trans j0'
    have J1 := (cat hBc hgX).trans j1'
    have J2 := (cat hBc hgX).trans j2'
    have J3 := (cat hBc hgX).trans j3'
    have J4 := (cat hBc hgX).trans j4'
    have hgc : g < wc.heap.size := by omega
    have hNc : N ≤ wc.heap.size := by omega
    have HFZ : Hid (ft.size ≤ 1000) := hFz
    have HAZ : Hid (A.2.size ≤ 1000) := hAz
    have HX : Hid (W0.heap.size ≤ wc.heap.size ∧ W0.heap.size ≤ M ∧ Below W0.heap.size W0 wc) := ⟨hXc, hXM, hBc⟩
    generalize wc = W1 at *
    clear j0' j1' j2' j3' j4' hFz hAz
    go_upto_region 22 with fail
    go_cut [16, 17] (fun s16 s17 wx => ∃ (M' : Nat) (pa : Option Addr) (pn pc : Nat), s16 = .pointer (some ⟨M', 0, none⟩) ∧ s17 = .int .i64 A.1 ∧ Blk wx M' 24 #[.slice pa pn pc, .int .i64 A.2.base] ∧ Holds wx (fun b => (b < N ∧ ok b) ∨ W1.heap.size ≤ b) A.2.args (.slice pa pn pc) ∧ W1.heap.size ≤ M' ∧ Below W1.heap.size W1 wx)
    case first =>
      rename_i K Q' hKs
      refine (wpIn_wide (n := 9)).1 ?_
      show Code.wpIn Fence.wide 9 Try.prog (Code.region 22 _ true) _ (actBA22 N a1 xn a2 (wov bs (.slice c1 cn c2) (.slice m1 mn m2)) (rwv 4 (.slice x1 bn x2) r.ty.base r.idx (.slice (some ⟨g, o, none⟩) 2 x4)) (undef) (.pointer (some ⟨N + 1 + 1, 0, none⟩)) (.int .i64 0) (.pointer (some ⟨N + 1 + 1 + 1, 0, none⟩)) (undef) (undef) (undef) (undef) (undef) (.pointer (some ⟨M, 0, none⟩)) (.int .i64 0) (u18) (u19) (u20) (u21) (u22) (u23) (u24) (u25) (u26) (u27) (u28) (u29) (u30) (u31) (u32) (u33) (u34) (u35) (u36) (u37) (u38) (u39) (u40) (u41) (u42) (u43) (u44) (u45) (u46) (u47) (u48) (u49) (u50) (u51) (u52) (u53) (u54) (u55) (u56) (u57) (u58) (u59) (u60) (u61) (u62) (u63) (u64) (u65) (u66) (u67) (u68) (u69) (u70) (u71) (u72) (u73) (u74) (u75) (u76) (u77) (u78) (u79) (u80) (u81) (u82) (u83) (u84) (u85) (u86) (u87) (.int .i64 0) (.bool false) (u90) (u91) (u102) (u103) (u104) (u105) (u106) (u107) (u108) (u109) (u110) (u111) (u112) (u113) (u114) (u115) (u116) (u117) (u118) (u119) (u120) (u121) (fun | 16 => undef | 17 => undef | 92 => u92 | 93 => u93 | 94 => u94 | 95 => u95 | 96 => u96 | 97 => u97 | 98 => u98 | 99 => u99 | 100 => u100 | 101 => u101 | _ => undef)) W1
      refine region_boxesK [(0, 0), (1, 0), (2, 0), (3, 0), (4, 0), (5, 0), (6, 0), (7, 0), (8, 0), (9, 1), (12, 1)] [⟨16, 100, 24, #[.slice none 0 0, .int .i64 0], 10, 0, 11⟩] (fun s => (Nat.ble 16 s && Nat.ble s 17) || (Nat.ble 92 s && Nat.ble s 101)) (VBA22 N W1.heap.size xn ok bs a A a1 c1 m1 ta td a2 cn c2 mn m2 vn tc ln te x4 g o) (by kernel_rfl) (by kernel_rfl) (by kernel_rfl) (by kernel_rfl) (by kernel_rfl) (by kernel_rfl) (by kernel_rfl) (VBA22.keep N W1.heap.size xn ok bs a A a1 c1 m1 ta td a2 cn c2 mn m2 vn tc ln te x4 g o W1 rfl hNc) ⟨?_, ?_, ?_, ?_, ?_, ?_, ?_, ?_, ?_, ?_, ?_, trivial⟩ ⟨⟨?_, ?_⟩, trivial⟩ ?_
      · intro oo ho uu okk w hB hk K' hK
        cases ho
        have g0 := (cat hB f0.lt).trans (f0.cell 0)
        have g1 := (cat hB f0.lt).trans (f0.cell 1)
        have g2 := (cat hB f0.lt).trans (f0.cell 2)
        have hK3 := hK (wov bs (.slice c1 cn c2) (.slice m1 mn m2)) w (fun s hs => by cases hs; exact rfl) (Below.refl _ _)
        simp only [over_actBA22] at hK3 ⊢
        clear hK hk
        unfold actBA22 at hK3 ⊢
        refine want_plain rfl ?_
        go_simp
        exact hK3
      · intro oo ho uu okk w hB hk K' hK
        cases ho
        have hK3 := hK (.slice a1 xn a2) w (fun s hs => by cases hs; exact rfl) (Below.refl _ _)
        simp only [over_actBA22] at hK3 ⊢
        clear hK hk
        unfold actBA22 at hK3 ⊢
        refine want_plain rfl ?_
        go_simp
        exact hK3
      · intro oo ho uu okk w hB hk K' hK
        cases ho
        have hK3 := hK (.pointer (some ⟨N + 1, 4, none⟩)) w (fun s hs => by cases hs; exact rfl) (Below.refl _ _)
        simp only [over_actBA22] at hK3 ⊢
        clear hK hk
        unfold actBA22 at hK3 ⊢
        refine want_plain rfl ?_
        go_simp
        exact hK3
      · intro oo ho uu okk w hB hk K' hK
        cases ho
        have e95 : uu 95 = .pointer (some ⟨N + 1, 4, none⟩) := hk 95 (by decide +kernel) rfl
        have g4 := (cat hB f1.lt).trans (f1.cell 4)
        have hK3 := hK (.slice (some ⟨g, o, none⟩) 2 x4) w (fun s hs => by cases hs; exact rfl) (Below.refl _ _)
        simp only [over_actBA22] at hK3 ⊢
        clear hK hk
        unfold actBA22 at hK3 ⊢
        simp only [e95] at hK3 ⊢
        refine want_plain rfl ?_
        go_simp
        exact hK3
      · intro oo ho uu okk w hB hk K' hK
        cases ho
        have e96 : uu 96 = .slice (some ⟨g, o, none⟩) 2 x4 := hk 96 (by decide +kernel) rfl
        have hK3 := hK (.pointer (some ⟨g, o + 5, none⟩)) w (fun s hs => by cases hs; exact rfl) (Below.refl _ _)
        simp only [over_actBA22] at hK3 ⊢
        clear hK hk
        unfold actBA22 at hK3 ⊢
        simp only [e96] at hK3 ⊢
        refine want_plain rfl ?_
        go_simp
        exact hK3
      · intro oo ho uu okk w hB hk K' hK
        cases ho
        have e97 : uu 97 = .pointer (some ⟨g, o + 5, none⟩) := hk 97 (by decide +kernel) rfl
        have g0 := (cat hB hgc).trans J0
        have g1 := (cat hB hgc).trans J1
        have g2 := (cat hB hgc).trans J2
        have g3 := (cat hB hgc).trans J3
        have g4 := (cat hB hgc).trans J4
        have hK3 := hK (rwv a.kind (.slice ta vn tc) a.ty.base a.idx (.slice td ln te)) w (fun s hs => by cases hs; exact rfl) (Below.refl _ _)
        simp only [over_actBA22] at hK3 ⊢
        clear hK hk
        unfold actBA22 at hK3 ⊢
        simp only [e97] at hK3 ⊢
        refine want_plain rfl ?_
        go_simp
        exact hK3
      · intro oo ho uu okk w hB hk K' hK
        cases ho
        have e93 : uu 93 = wov bs (.slice c1 cn c2) (.slice m1 mn m2) := hk 93 (by decide +kernel) rfl
        have e94 : uu 94 = .slice a1 xn a2 := hk 94 (by decide +kernel) rfl
        have e98 : uu 98 = rwv a.kind (.slice ta vn tc) a.ty.base a.idx (.slice td ln te) := hk 98 (by decide +kernel) rfl
        have hcall := kA w (hB2.trans (hB.mono hNc))
        have hK3 := fun (w2 : World) (qa : Option Addr) (qn qc : Nat) (h1 : Holds w2 (Mix N W1.heap.size ok fun m => w.heap.size ≤ m ∨ okk m) A.2.args (.slice qa qn qc)) (hb2 : Below w.heap.size w w2) => hK (.tuple #[tv (.slice qa qn qc) A.2.base, .int .i64 A.1]) w2 (fun s hs => by cases hs; exact ⟨qa, qn, qc, rfl, h1⟩) hb2
        simp only [over_actBA22] at hK3 ⊢
        clear hK hk
        unfold actBA22 at hK3 ⊢
        simp only [e93, e94, e98] at hK3 ⊢
        refine want_plain rfl ?_
        go_simp
        refine ⟨trivial, (callsIn_wide.2 hcall).mono ?_⟩
        rintro e w2 ⟨qa, qn, qc, rfl, h1, hbw⟩
        exact hK3 w2 qa qn qc (h1.mono (fun _ _ h => Mix.into hB (h.imp (fun h => .inl h) id))) hbw
      · intro oo ho uu okk w hB hk K' hK
        cases ho
        obtain ⟨qa_99, qn_99, qc_99, e99, h99_1⟩ := hk 99 (by decide +kernel) rfl
        have hK3 := hK (.tuple #[tv (.slice qa_99 qn_99 qc_99) A.2.base, .int .i64 A.1]) w (fun s hs => by cases hs; exact ⟨qa_99, qn_99, qc_99, rfl, h99_1.mono (fun _ _ h => Mix.into hB (.inl h))⟩) (Below.refl _ _)
        simp only [over_actBA22] at hK3 ⊢
        clear hK hk
        unfold actBA22 at hK3 ⊢
        simp only [e99] at hK3 ⊢
        refine want_plain rfl ?_
        go_simp
        exact hK3
      · intro oo ho uu okk w hB hk K' hK
        cases ho
        obtain ⟨qa_92, qn_92, qc_92, e92, h92_1⟩ := hk 92 (by decide +kernel) rfl
        have hK3 := hK (tv (.slice qa_92 qn_92 qc_92) A.2.base) w (fun s hs => by cases hs; exact ⟨qa_92, qn_92, qc_92, rfl, h92_1.mono (fun _ _ h => Mix.into hB (.inl h))⟩) (Below.refl _ _)
        simp only [over_actBA22] at hK3 ⊢
        clear hK hk
        unfold actBA22 at hK3 ⊢
        simp only [e92] at hK3 ⊢
        refine want_plain rfl ?_
        go_simp
        exact hK3
      · intro oo ho uu okk w hB hk K' hK
        cases ho
        obtain ⟨qa_92, qn_92, qc_92, e92, h92_1⟩ := hk 92 (by decide +kernel) rfl
        have hK3 := hK (.int .i64 A.1) w (fun s hs => by cases hs; exact rfl) (Below.refl _ _)
        simp only [over_actBA22] at hK3 ⊢
        clear hK hk
        unfold actBA22 at hK3 ⊢
        simp only [e92] at hK3 ⊢
        refine want_plain rfl ?_
        go_simp
        exact hK3
      · intro oo ho uu okk w hB hk K' hK
        cases ho
        have e101 : uu 101 = .int .i64 A.1 := hk 101 (by decide +kernel) rfl
        have hK3 := hK (.int .i64 A.1) w (fun s hs => by cases hs; exact rfl) (Below.refl _ _)
        simp only [over_actBA22] at hK3 ⊢
        clear hK hk
        unfold actBA22 at hK3 ⊢
        simp only [e101] at hK3 ⊢
        refine want_plain rfl ?_
        go_simp
        exact hK3
      · intro oo ho uu w K' hK
        cases ho
        simp only [over_actBA22] at hK ⊢
        unfold actBA22 at hK ⊢
        refine want_plain rfl ?_
        go_simp
        exact hK
      · intro oo ho uu okk w m hm hb hv K' hK
        cases ho
        dsimp only at hm hb hv hK
        obtain ⟨w00, ok00, hv⟩ := hv
        obtain ⟨qa, qn, qc, e100, h1⟩ := hv
        have fz0 := hb.frozen 0
        have cz0 := hb.cell 0
        have fz1 := hb.frozen 1
        have cz1 := hb.cell 1
        have b9 := ((hb.set 0 (.slice qa qn qc)).set 1 (.int .i64 A.2.base))
        have o9 := (((Only.refl [m] w).set (B := m) (by simp) 0 (.slice qa qn qc)).set (B := m) (by simp) 1 (.int .i64 A.2.base))
        rw [e100] at hK
        have hK3 := hK _ b9 o9
        simp only [over_actBA22] at hK3 ⊢
        clear hK b9 o9
        unfold actBA22 at hK3 ⊢
        simp only [hm, e100] at hK3 ⊢
        refine want_plain rfl ?_
        go_simp
        exact hK3
      · intro uu w' hB hv hbx
        have e17 : uu 17 = .int .i64 A.1 := hv 17 (by decide +kernel) (by decide +kernel)
        obtain ⟨qa_100, qn_100, qc_100, e100, h100_1⟩ := hv 100 (by decide +kernel) (by decide +kernel)
        obtain ⟨m0, em0, gm0, bm0⟩ := hbx _ List.mem_cons_self
        simp only [e100] at bm0
        rw [over_actBA22]
        refine hKs _ _ ?_
        unfold actBA22
        simp only [e17, e100, em0]
        go_wp2_with fail
        go_meet
        exact ⟨m0, qa_100, qn_100, qc_100, rfl, rfl, bm0, h100_1.mono (fun _ _ h => h.imp id And.left), gm0, hB⟩
    case rest =>
    obtain ⟨M', pa, pn, pc, rfl, rfl, bM', hAh, hXM', hBd⟩ := hcut
    have hB3 : Below N w wc := hB2.trans (hBd.mono hNc)
    have g2 := f2.below hBd f2.lt
    have g3 := f3.below hBd f3.lt
    have gM := bM.below hBd bM.lt
    have hFh' := hFh.bel hBd
    have hAh' := hAh.mono (ok' := fun b => (b < N ∧ ok b) ∨ W0.heap.size ≤ b) fun b _ h => h.imp id fun h => by have := HX.out.1; omega
    have hl3 : N + 1 + 1 + 1 < wc.heap.size := g3.lt
    have hMl3 := gM.lt
    have hMn : N + 1 + 1 + 1 < M := by have := HX.out.2.1; omega
    have hMl4 := bM'.lt
    clear f0 f1 f2 f3 bM hFh hAh kA J0 J1 J2 J3 J4
    obtain ⟨ae, at'⟩ := A
    by_cases ha0 : ae = 0
    · subst ha0
      cases hta : ft.args with
      | nil =>
        have HPF : Hid (P = (5, zT)) := by show _ = _; rw [← HP.out]; show finI (appT ft at') = _; unfold appT; rw [hta]; rfl
        have hqn : qn = 0 := by rw [hta] at hFh'; obtain ⟨_, _, e9, _⟩ := hFh'.shape; cases e9; rfl
        subst hqn
        have q0 := gM.cell 0
        have hXw : W0.heap.size ≤ wc.heap.size := by have h1 := HX.out.1; have h2 := hBd.size; omega
        clear hta hFh' hAh' bM'
        go_upto_region 25 with fail
        go_quiet (fail)
        have v2 : Blk (wc.drewN nq) (N + 1 + 1) 24 #[.slice none 0 0, .int .i64 0] := g2.below (below_drewN (Below.refl _ wc) nq) g2.lt
        have v3 : Blk (wc.drewN nq) (N + 1 + 1 + 1) 24 #[.slice none 0 0, .int .i64 0] := g3.below (below_drewN (Below.refl _ wc) nq) g3.lt
        have hB4 : Below N w (wc.drewN nq) := below_drewN hB3 nq
        obtain ⟨W7, hW7⟩ : ∃ W7, wc.drewN nq = W7 := ⟨_, rfl⟩
        rw [hW7] at v2 v3 hB4
        have HW7 : Hid _ := hW7
        have p0 := v3.cell 0
        have p1 := v3.cell 1
        have hl4 : N + 1 + 1 + 1 < W7.heap.size := v3.lt
        clear hW7 g2 g3 gM q0
        go_upto_region 26 with fail
        rw [HW7.out]
        clear HW7
        have z00 := v2.cell 0
        have z11 := v2.cell 1
        have f00 := v2.frozen 0
        have f11 := v2.frozen 1
        have b5 := (v2.set 0 (.slice none 0 0)).set 1 (.int .i64 0)
        have o5 : Only [N + 1 + 1] W7 ((W7.setCell ⟨N + 1 + 1, 0, none⟩ (.slice none 0 0)).setCell ⟨N + 1 + 1, 1, none⟩ (.int .i64 0)) := ((Only.refl _ _).set (by simp) 0 _).set (by simp) 1 _
        go_wp2
        generalize (W7.setCell ⟨N + 1 + 1, 0, none⟩ (.slice none 0 0)).setCell ⟨N + 1 + 1, 1, none⟩ (.int .i64 0) = W5 at *
        have g0 : W5.cell? ⟨N + 1 + 1, 0, none⟩ = some (.slice none 0 0) := b5.cell 0
        have g1 : W5.cell? ⟨N + 1 + 1, 1, none⟩ = some (.int .i64 0) := b5.cell 1
        exact bodyPost_ret (v := .tuple #[tv (.slice none 0 0) 0, .int .i64 5]) (by simp [results, Try.results55, go_sem, g0, g1]) rfl (by unfold RefTold; rw [HPF.out]; exact ⟨none, 0, 0, rfl, Holds.nil _ _ _ _ (fun _ => rfl), HN.out ▸ (hB4.trans (o5.below (n := N) (by have := hB4.size; omega) (by simp; omega)))⟩)
      | cons x rest =>
        have HTA : Hid (ft.args = x :: rest) := hta
        have hxz : x.size ≤ 1000000 := by have h1 := ft.size_eq; rw [hta] at h1; simp only [sizeL] at h1; have := HFZ.out; omega
        have hfa := hFh'
        rw [hta] at hfa
        obtain ⟨a9, c9, e9, _, hat⟩ := hfa.shape
        cases e9
        obtain ⟨fg, fo, s, rfl, hgo, hfg, i0, i1, hs⟩ := hat 0 x rfl
        rw [show fo + 0 * 2 = fo by omega] at i0 i1
        have heq := fun cur (h : Below wc.heap.size wc cur) => Same_calls x at' _ _ s (.slice pa pn pc) cur (hs.bel h) (hAh'.bel h) hxz
        obtain ⟨q, hq⟩ : ∃ q, x.same at' = q := ⟨_, rfl⟩
        have HQ : Hid (x.same at' = q) := hq
        simp only [hq] at heq
        have HEQ : Hid _ := heq
        obtain ⟨ya, yc, hss, _⟩ := hs.shape
        obtain ⟨yn, hyn⟩ : ∃ n, x.args.length = n := ⟨_, rfl⟩
        rw [hyn] at hss
        subst hss
        have y1 : (0 : Int) < ((x :: rest).length : Int) := by simp
        obtain ⟨L, hL⟩ : ∃ L, (x :: rest).length = L := ⟨_, rfl⟩
        have hLa : ft.args.length = L := by rw [hta]; exact hL
        rw [hL] at y1 gM hFh'
        have y2 : ((L : Int) == 0) = false := by simp; omega
        have y3 : decide ((L : Int) = 0) = false := by simp; omega
        have y4 : (L : Int) ≠ 0 := by omega
        have y5 : ((L : Int) = 0) = False := by simp; omega
        have krest := fun cur (h : Below wc.heap.size wc cur) => refRest_calls ft 1 (fun b => (b < N ∧ ok b) ∨ W0.heap.size ≤ b) _ cur (hFh'.bel h) (by rw [hta]; simp) (by have h1 := ft.size_eq; have h2 := sizeL_length ft.args; have := HFZ.out; omega)
        have q0 := fun d os => cell_regrown (gM.cell 0) d os
        have q1 := fun d os => cell_regrown (bM'.cell 0) d os
        have q2 := fun d os => cell_regrown (bM'.cell 1) d os
        have q3 := fun d os => cell_regrown i0 d os
        have q4 := fun d os => cell_regrown i1 d os
        have CC : Hid (∀ d os, Calls Try.prog 28 #[tv (.slice ya yn yc) x.base, tv (.slice pa pn pc) at'.base] (grow (redrawn wc d) os) fun e w'' => e = .returned (.bool q) ∧ ∃ p : Regrown, w'' = grow (redrawn wc p.d) p.os) := fun d os =>
          Calls.regrown_of (HEQ.out _ (below_regrown wc d os))
        clear hta hfa hat heq hq hAh' hFh' hs hL hLa
        go_upto_region 25 with fail
        refine wp_region_quiet_below (by kernel_rfl) (by kernel_rfl) ?_
        repeat (go_big_quiet_step ((go_at_call 28; exact CC.out _ _)))
        refine wpQuiet_nil ?_
        intro w7 hw'
        obtain ⟨p7, hw''⟩ := hw'
        have hb7 : Below wc.heap.size wc w7 := by rw [hw'']; exact below_regrown _ _ _
        have v2 := g2.below hb7 g2.lt
        have v3 := g3.below hb7 g3.lt
        have vM := gM.below hb7 gM.lt
        have hB4 : Below N w w7 := hB3.trans (hb7.mono (by omega))
        have kr := krest w7 hb7
        have hz7 := hb7.size
        have hXw : W0.heap.size ≤ w7.heap.size := by have h1 := HX.out.1; have h2 := hBd.size; omega
        have hl4 : N + 1 + 1 + 1 < w7.heap.size := v3.lt
        have hl5 : N + 1 + 1 + 1 < W0.heap.size := hl1
        have HNO : Hid (N + 1 + 1 + 1 < W0.heap.size ∧ W0.heap.size ≤ w7.heap.size) := ⟨hl1, hXw⟩
        clear hw'' p7 q0 q1 q2 q3 q4 g2 g3 gM i0 i1 krest bM'
        cases q with
        | false =>
          have HPF : Hid (P = (5, zT)) := by show _ = _; rw [← HP.out]; show finI (appT ft at') = _; unfold appT; rw [HTA.out]; simp [HQ.out, finI]
          have p0 := v3.cell 0
          have p1 := v3.cell 1
          clear kr
          have z00 := v2.cell 0
          have z11 := v2.cell 1
          have f00 := v2.frozen 0
          have f11 := v2.frozen 1
          have b5 := (v2.set 0 (.slice none 0 0)).set 1 (.int .i64 0)
          have o5 : Only [N + 1 + 1] w7 ((w7.setCell ⟨N + 1 + 1, 0, none⟩ (.slice none 0 0)).setCell ⟨N + 1 + 1, 1, none⟩ (.int .i64 0)) := ((Only.refl _ _).set (by simp) 0 _).set (by simp) 1 _
          go_wp2
          generalize (w7.setCell ⟨N + 1 + 1, 0, none⟩ (.slice none 0 0)).setCell ⟨N + 1 + 1, 1, none⟩ (.int .i64 0) = W5 at *
          have g0 : W5.cell? ⟨N + 1 + 1, 0, none⟩ = some (.slice none 0 0) := b5.cell 0
          have g1 : W5.cell? ⟨N + 1 + 1, 1, none⟩ = some (.int .i64 0) := b5.cell 1
          exact bodyPost_ret (v := .tuple #[tv (.slice none 0 0) 0, .int .i64 5]) (by simp [results, Try.results55, go_sem, g0, g1]) rfl (by unfold RefTold; rw [HPF.out]; exact ⟨none, 0, 0, rfl, Holds.nil _ _ _ _ (fun _ => rfl), HN.out ▸ (hB4.trans (o5.below (n := N) (by have := hB4.size; omega) (by simp; omega)))⟩)
        | true =>
          have hrz : (Ty.mk rest ft.base).size ≤ 1000 := by have h1 := ft.size_eq; rw [HTA.out] at h1; simp only [sizeL] at h1; have h2 := HFZ.out; show 1 + sizeL rest ≤ 1000; omega
          have HPF : Hid (P = (0, .mk rest ft.base)) := by show _ = _; rw [← HP.out]; show finI (appT ft at') = _; unfold appT; rw [HTA.out]; simp only [HQ.out, if_true]; unfold finI; rw [if_pos rfl, if_pos hrz]
          have p0 := vM.cell 0
          have p1 := vM.cell 1
          go_upto_region 27 with fail
          go_wp2_with fail
          refine kr.mono ?_
          rintro e w8 ⟨v, rfl, hv, hb8⟩
          have hdr : ft.args.drop 1 = rest := by rw [HTA.out]; rfl
          rw [hdr] at hv
          obtain ⟨va, vc, rfl, _⟩ := hv.shape
          obtain ⟨rn, hrn⟩ : ∃ n, rest.length = n := ⟨_, rfl⟩
          rw [hrn] at hv ⊢
          have n2 := v2.below hb8 v2.lt
          have hB5 : Below N w w8 := hB4.trans (hb8.mono (by omega))
          have hz8 := hb8.size
          clear kr p0 p1 v2 v3 vM hdr hrn
          have z00 := n2.cell 0
          have z11 := n2.cell 1
          have f00 := n2.frozen 0
          have f11 := n2.frozen 1
          have b5 := (n2.set 0 (.slice va rn vc)).set 1 (.int .i64 ft.base)
          have o5 : Only [N + 1 + 1] w8 ((w8.setCell ⟨N + 1 + 1, 0, none⟩ (.slice va rn vc)).setCell ⟨N + 1 + 1, 1, none⟩ (.int .i64 ft.base)) := ((Only.refl _ _).set (by simp) 0 _).set (by simp) 1 _
          go_wp2
          generalize (w8.setCell ⟨N + 1 + 1, 0, none⟩ (.slice va rn vc)).setCell ⟨N + 1 + 1, 1, none⟩ (.int .i64 ft.base) = W5 at *
          have g0 : W5.cell? ⟨N + 1 + 1, 0, none⟩ = some (.slice va rn vc) := b5.cell 0
          have g1 : W5.cell? ⟨N + 1 + 1, 1, none⟩ = some (.int .i64 ft.base) := b5.cell 1
          exact bodyPost_ret (v := .tuple #[tv (.slice va rn vc) ft.base, .int .i64 0]) (by simp [results, Try.results55, go_sem, g0, g1]) rfl (by unfold RefTold; rw [HPF.out]; exact ⟨va, rn, vc, rfl, hv.keep fun b hb ho => ⟨o5.block b hb (by simp; have := HNO.out; omega), by rcases ho with (ho | ho) | ho <;> first | exact .inl ho.2 | exact .inr (by rw [HN.out]; have := HNO.out; omega)⟩, HN.out ▸ (hB5.trans (o5.below (n := N) (by have := hB5.size; omega) (by simp; omega)))⟩)
    · have z1 : (ae == 0) = false := by simp [ha0]
      have z2 : (ae != 0) = true := by simp [ha0]
      have z3 : decide (ae = 0) = false := by simp [ha0]
      have z4 : decide (ae ≠ 0) = true := by simp [ha0]
      have HPF : Hid (P = (ae, zT)) := by show _ = _; rw [← HP.out]; unfold finI appI; simp [ha0]
      have q0 := g3.cell 0
      have q1 := g3.cell 1
      clear gM bM' hFh' hAh'
      have z00 := g2.cell 0
      have z11 := g2.cell 1
      have f00 := g2.frozen 0
      have f11 := g2.frozen 1
      have b5 := (g2.set 0 (.slice none 0 0)).set 1 (.int .i64 0)
      have o5 : Only [N + 1 + 1] wc ((wc.setCell ⟨N + 1 + 1, 0, none⟩ (.slice none 0 0)).setCell ⟨N + 1 + 1, 1, none⟩ (.int .i64 0)) := ((Only.refl _ _).set (by simp) 0 _).set (by simp) 1 _
      go_wp2
      generalize (wc.setCell ⟨N + 1 + 1, 0, none⟩ (.slice none 0 0)).setCell ⟨N + 1 + 1, 1, none⟩ (.int .i64 0) = W5 at *
      have g0 : W5.cell? ⟨N + 1 + 1, 0, none⟩ = some (.slice none 0 0) := b5.cell 0
      have g1 : W5.cell? ⟨N + 1 + 1, 1, none⟩ = some (.int .i64 0) := b5.cell 1
      exact bodyPost_ret (v := .tuple #[tv (.slice none 0 0) 0, .int .i64 ae]) (by simp [results, Try.results55, go_sem, g0, g1]) rfl (by unfold RefTold; rw [HPF.out]; exact ⟨none, 0, 0, rfl, Holds.nil _ _ _ _ (fun _ => rfl), HN.out ▸ (hB3.trans (o5.below (n := N) (by have := hB3.size; omega) (by simp; omega)))⟩)
  · have z1 : (fe == 0) = false := by simp [hf0]
    have z2 : (fe != 0) = true := by simp [hf0]
    have z3 : decide (fe = 0) = false := by simp [hf0]
    have z4 : decide (fe ≠ 0) = true := by simp [hf0]
    have HPF : Hid (P = (fe, zT)) := by show _ = _; rw [← HP.out]; unfold finI appI; simp [hf0]
    have q0 := f3.cell 0
    have q1 := f3.cell 1
    clear f0 f1 bM hFh kA j0' j1' j2' j3' j4'
    have z00 := f2.cell 0
    have z11 := f2.cell 1
    have f00 := f2.frozen 0
    have f11 := f2.frozen 1
    have b5 := (f2.set 0 (.slice none 0 0)).set 1 (.int .i64 0)
    have o5 : Only [N + 1 + 1] wc ((wc.setCell ⟨N + 1 + 1, 0, none⟩ (.slice none 0 0)).setCell ⟨N + 1 + 1, 1, none⟩ (.int .i64 0)) := ((Only.refl _ _).set (by simp) 0 _).set (by simp) 1 _
    go_wp2
    generalize (wc.setCell ⟨N + 1 + 1, 0, none⟩ (.slice none 0 0)).setCell ⟨N + 1 + 1, 1, none⟩ (.int .i64 0) = W5 at *
    have g0 : W5.cell? ⟨N + 1 + 1, 0, none⟩ = some (.slice none 0 0) := b5.cell 0
    have g1 : W5.cell? ⟨N + 1 + 1, 1, none⟩ = some (.int .i64 0) := b5.cell 1
    exact bodyPost_ret (v := .tuple #[tv (.slice none 0 0) 0, .int .i64 fe]) (by simp [results, Try.results55, go_sem, g0, g1]) rfl (by unfold RefTold; rw [HPF.out]; exact ⟨none, 0, 0, rfl, Holds.nil _ _ _ _ (fun _ => rfl), HN.out ▸ (hB2.trans (o5.below (n := N) (by have := hB2.size; omega) (by simp; omega)))⟩)

end Go.Proofs.Ytckagmagjogmnaa
