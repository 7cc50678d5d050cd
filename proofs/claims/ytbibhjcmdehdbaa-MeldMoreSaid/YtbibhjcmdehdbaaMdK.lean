/- Down to a coarser schema. -/
import Derived.Test.YtbibhjcmdehdbaaMdJ
import Derived.Deep.Cut
namespace Go.Proofs.Ytbibhjcmdehdbaa
open Go.RowKit Go.Sort Go.Maps
set_option linter.unusedVariables false

set_option maxHeartbeats 20000000 in
set_option maxRecDepth 100000 in
theorem down_less_any (k s z zc ct sm t : Int) (A B : Option Addr) (c d : Nat) (P Q : List (Int × Int)) (w : World) (hP : Bk w A P) (hQ : Bk w B Q) (o : Ok ⟨k, s, z, zc, ct, sm, P, Q⟩) (ht : rightB t = true) (hts : t < s) (r : HV) (hr : swG ⟨k, t, z, zc, ct, sm, mv s t P, mv s t Q⟩ z = r) :
    Calls Try.prog 36 #[.agg #[.int .i64 k, .int .i64 s, .int .i64 z, .int .u64 zc, .int .u64 ct, .int .i64 sm, .slice A P.length c, .slice B Q.length d], .int .i64 t] w (RetH w r 0) := by
  have HRR := Lib.hid hr
  clear hr
  obtain ⟨bx, bz⟩ := Box.two w (.int .i64 k) (.int .i64 s) (.int .i64 z) (.int .u64 zc) (.int .u64 ct) (.int .i64 sm) (.slice A P.length c) (.slice B Q.length d) (.int .i64 0) (.int .i64 0) (.int .i64 0) (.int .u64 0) (.int .u64 0) (.int .i64 0) (.slice none 0 0) (.slice none 0 0)
  have hb0 : Below w.heap.size w ((w.alloc (.cells #[.int .i64 k, .int .i64 s, .int .i64 z, .int .u64 zc, .int .u64 ct, .int .i64 sm, .slice A P.length c, .slice B Q.length d] 25)).alloc (.cells #[.int .i64 0, .int .i64 0, .int .i64 0, .int .u64 0, .int .u64 0, .int .i64 0, .slice none 0 0, .slice none 0 0] 25)) := ((Below.refl _ _).alloc (Nat.le_refl _) _).alloc (by simp) _
  have HP := Lib.hid hP
  have HQ := Lib.hid hQ
  have HB0 := Lib.hid hb0
  have HO := Lib.hid o
  have HR := o.s
  have hl1 := o.lP
  have hl2 := o.lQ
  simp only at HR hl1 hl2
  have HX := Lib.hid (And.intro bx (show ZeroBox _ _ from bz))
  have HT := Lib.hid (show okTo s t = true by unfold okTo; rw [HR, ht]; simp; omega)
  have HG := Lib.hid (raw_good o.toGood ht (show t ≤ s by omega))
  have d1 : decide (s < t) = false := by simp; omega
  have d2 : (t == s) = false := by simp; omega
  clear hP hQ hb0 o bx bz
  go_enter Try.func36, Try.ntmps36
  go_wp2_with (go_at_call 72; refine (right_any _ _).mono ?_; rintro e w' ⟨rfl, rfl⟩)
  generalize ((w.alloc (.cells #[.int .i64 k, .int .i64 s, .int .i64 z, .int .u64 zc, .int .u64 ct, .int .i64 sm, .slice A P.length c, .slice B Q.length d] 25)).alloc (.cells #[.int .i64 0, .int .i64 0, .int .i64 0, .int .u64 0, .int .u64 0, .int .i64 0, .slice none 0 0, .slice none 0 0] 25)) = w0 at *
  refine (checkN k s z zc ct (.int .i64 sm) A B c d P Q w0 HO.out.zc HO.out.toGood.z1 (HP.out.below HB0.out) (HQ.out.below HB0.out) 0 HO.out.chk).mono ?_
  rintro e w1 ⟨rfl, hb1⟩
  have HX1 := Lib.hid (And.intro (HX.out.1.below hb1) (HX.out.2.below hb1))
  have HB1 := Lib.hid (HB0.out.trans (hb1.mono HB0.out.size))
  obtain ⟨x1, x6, x7, _, _⟩ := cells167 HX1.out.1
  have hlt := HX1.out.1.lt
  clear hb1
  have HC1 := Lib.hid (fun (W : World) (hW : Below w1.heap.size w1 W) => coarserN s t A c P w1 W hW (HP.out.below HB1.out) (by omega) HT.out HO.out.iP)
  have HC2 := Lib.hid (fun (W : World) (hW : Below w1.heap.size w1 W) => coarserN s t B d Q w1 W hW (HQ.out.below HB1.out) (by omega) HT.out HO.out.iQ)
  have HBX := Lib.hid (fun (W : World) (hW : Below w1.heap.size w1 W) => cells167 (HX1.out.1.below hW))
  have HEN := Lib.hid (@dn_end w w1 k s z zc ct sm A B P.length Q.length c d (mv s t P) (mv s t Q) HX1.out.1 HX1.out.2 HB1.out)
  have g0 : Below w1.heap.size w1 w1.drew := (Below.refl _ _).drew
  go_upto_region 8 with fail
  go_cut [29] from 30 (fun s29 wx => DnRel w k s z zc ct sm (mv s t P) (mv s t Q) wx)
  case first =>
    go_region_with (go_at_call 74; first
      | ((with_reducible refine (HC1.out _ (by first | assumption | exact below_drewN (Below.refl _ _) _ | exact (Below.refl _ _).drew)).mono ?_); rintro e w2 ⟨A1, c1, rfl, hA1, g1⟩; have HA1 := Lib.hid hA1; obtain ⟨j1, j6, j7, _, _⟩ := HBX.out w2 g1; clear hA1)
      | ((with_reducible refine (HC2.out _ (by first | assumption | exact below_drewN (Below.refl _ _) _ | exact (Below.refl _ _).drew)).mono ?_); rintro e w3 ⟨B1, d1, rfl, hB1, g2⟩; have HB1B := Lib.hid hB1; obtain ⟨l1, l6, l7, f6, f7⟩ := HBX.out w3 g2; clear hB1)
      | fail)
    all_goals (go_wp2_with fail)
    all_goals go_meet
    all_goals exact HEN.out _ _ _ _ _ _ HA1.out.1 HA1.out.2.1 HB1B.out.2.2 HB1B.out.1 HB1B.out.2.1 g2
  case rest =>
    obtain ⟨wy, hwy, hcut⟩ : ∃ W, W = _ ∧ DnRel w k s z zc ct sm (mv s t P) (mv s t Q) W := ⟨_, rfl, hcut⟩
    subst hwy
    obtain ⟨A1, B1, c1, d1, hx, hz, hA, hB, nA, nB, hb⟩ := hcut
    have HXr := Lib.hid (And.intro hx hz)
    have HBr := Lib.hid hb
    have HAr := Lib.hid (And.intro (And.intro hA hB) (And.intro nA nB))
    obtain ⟨y0, y1, y2, y3, y4, y5, y6, y7⟩ := hx.cells
    obtain ⟨f0, f1, f2, f3, f4, f5, f6, f7⟩ := hx.frozen
    have hly := hx.lt
    clear hx hz hA hB nA nB hb HC1 HC2 HBX HEN g0 x1 x6 x7
    go_wp2_with fail
    have HX2 := Lib.hid (Box.off HXr.out.2 (show w.heap.size + 1 ≠ w.heap.size by omega) 1 (.int .i64 t))
    have HB2 := Lib.hid (HBr.out.setCell (p := ⟨w.heap.size, 1, none⟩) (Nat.le_refl _) (.int .i64 t))
    have HA2 := Lib.hid (And.intro (HAr.out.1.1.off HAr.out.2.1 1 (.int .i64 t)) (HAr.out.1.2.off HAr.out.2.2 1 (.int .i64 t)))
    clear y0 y1 y2 y3 y4 y5 y6 y7 f0 f1 f2 f3 f4 f5 f6 f7 hly HXr HBr HAr
    generalize wy.setCell ⟨w.heap.size, 1, none⟩ (.int .i64 t) = w2 at *
    refine (swallow_any k t z zc ct sm z A1 B1 c1 d1 (mv s t P) (mv s t Q) w2 HA2.out.1 HA2.out.2 (by rw [mv_length]; exact hl1) (by rw [mv_length]; exact hl2) HG.out HO.out.z).mono ?_
    intro e w3 hR
    obtain ⟨A2, B2, c2, d2, rfl, hA2, hB2, hb2, nA2, nB2⟩ := hR.as HRR.out rfl
    have HR2 := Lib.hid (RetH.fin (c := c2) (d := d2) (E := 0) (g := w.heap.size + 1) (HB2.out.trans (hb2.mono HB2.out.size)) HB2.out.size (Box.lt HX2.out) (by omega) hA2 hB2 nA2 nB2)
    have HX3 := Lib.hid (Box.below HX2.out hb2)
    clear hR hA2 hB2 hb2 nA2 nB2 HRR
    obtain ⟨x0, x1, x2, x3, x4, x5, x6, x7⟩ := HX3.out.cells
    obtain ⟨f0, f1, f2, f3, f4, f5, f6, f7⟩ := HX3.out.frozen
    have hlt := HX3.out.lt
    obtain ⟨rk, rs, rz, rzc, rct, rsm, rP, rQ⟩ := r
    simp only [hvA]
    go_wp2_with fail
    exact bodyPost_ret (v := .tuple #[.agg #[.int .i64 rk, .int .i64 rs, .int .i64 rz, .int .u64 rzc, .int .u64 rct, .int .i64 rsm, .slice A2 rP.length c2, .slice B2 rQ.length d2], .int .i64 0]) (by simp [results, Try.results36, go_sem, x0, x1, x2, x3, x4, x5, x6, x7]) rfl (HR2.out _ _ _ _ _ _ _ _)
end Go.Proofs.Ytbibhjcmdehdbaa
