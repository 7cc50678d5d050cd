import Derived.Test.YtakomfnajeolcaaGreatDoorCtA26
set_option linter.unusedVariables false
/- Widen; both. -/
namespace Go.Proofs.YtakomfnajeolcaaGreatDoor
open Go.RowKit Go.Sort Go.Maps
set_option linter.unusedVariables false

set_option maxHeartbeats 2000000 in
set_option maxRecDepth 100000 in
theorem widen_good (k s z zc ct sm u : Int) (A B : Option Addr) (c d : Nat) (P Q : List (Int × Int)) (w : World) (hP : Bk w A P) (hQ : Bk w B Q) (o : Ok ⟨k, s, z, zc, ct, sm, P, Q⟩) (hu : z ≤ u) (hz : zr u) :
    Calls Tryz.prog 143 #[.agg #[.int .i64 k, .int .i64 s, .int .i64 z, .int .u64 zc, .int .u64 ct, .int .i64 sm, .slice A P.length c, .slice B Q.length d], .int .i64 u] w (RetH w (swF ⟨k, s, z, zc, ct, sm, P, Q⟩ u) 0) := by
  obtain ⟨bx, bz⟩ := Box.two w (.int .i64 k) (.int .i64 s) (.int .i64 z) (.int .u64 zc) (.int .u64 ct) (.int .i64 sm) (.slice A P.length c) (.slice B Q.length d) (.int .i64 0) (.int .i64 0) (.int .i64 0) (.int .u64 0) (.int .u64 0) (.int .i64 0) (.slice none 0 0) (.slice none 0 0)
  have hb0 : Below w.heap.size w ((w.alloc (.cells #[.int .i64 k, .int .i64 s, .int .i64 z, .int .u64 zc, .int .u64 ct, .int .i64 sm, .slice A P.length c, .slice B Q.length d] 39)).alloc (.cells #[.int .i64 0, .int .i64 0, .int .i64 0, .int .u64 0, .int .u64 0, .int .i64 0, .slice none 0 0, .slice none 0 0] 39)) := ((Below.refl _ _).alloc (Nat.le_refl _) _).alloc (by simp) _
  have HP := Lib.hid hP
  have HQ := Lib.hid hQ
  have HB0 := Lib.hid hb0
  have HO := Lib.hid o
  have hl1 := o.lP
  have hl2 := o.lQ
  have hzz := o.z
  simp only at hl1 hl2 hzz
  have HX := Lib.hid (And.intro bx bz)
  have HZ := Lib.hid hz
  have HW := Lib.hid (swG_ok o u)
  have d1 : decide (u < z) = false := by simp; omega
  have hcase : (u != z) = false ∨ ((u != z) = true ∧ decide (u ≤ -262144) = false ∧ decide (262144 < u) = false) := by
    by_cases h : u = z
    · exact .inl (by simpa using h)
    · refine .inr ⟨by simpa using h, ?_, ?_⟩ <;> simp <;> unfold zr at hz hzz <;> omega
  have hc2 : ∃ q, (u != z) = q ∧ (q = true → decide (u ≤ -262144) = false ∧ decide (262144 < u) = false) := ⟨_, rfl, fun h => by rcases hcase with h1 | h1; (rw [h] at h1; cases h1); exact h1.2⟩
  obtain ⟨q, d2, d34⟩ := hc2
  clear hP hQ hb0 o bx bz hcase hu hz hzz
  cases q with
  | false =>
    clear d34
    go_enter Tryz.func143, Tryz.ntmps143
    go_wp2_with fail
    generalize ((w.alloc (.cells #[.int .i64 k, .int .i64 s, .int .i64 z, .int .u64 zc, .int .u64 ct, .int .i64 sm, .slice A P.length c, .slice B Q.length d] 39)).alloc (.cells #[.int .i64 0, .int .i64 0, .int .i64 0, .int .u64 0, .int .u64 0, .int .i64 0, .slice none 0 0, .slice none 0 0] 39)) = w0 at *
    refine (checkN k s z zc ct (.int .i64 sm) A B c d P Q w0 HO.out.zc HO.out.toGood.z1 (HP.out.below HB0.out) (HQ.out.below HB0.out) 0 HO.out.chk).mono ?_
    rintro e w1 ⟨rfl, hb1⟩
    have HX1 := Lib.hid (And.intro (HX.out.1.below hb1) (HX.out.2.below hb1))
    have HB1 := Lib.hid (HB0.out.trans (hb1.mono HB0.out.size))
    obtain ⟨x0, x1, x2, x3, x4, x5, x6, x7⟩ := HX1.out.1.cells
    have hlt := HX1.out.1.lt
    clear hb1
    go_wp2_with fail
    refine (swallow_any k s z zc ct sm u A B c d P Q w1 (HP.out.below HB1.out) (HQ.out.below HB1.out) hl1 hl2 HO.out.toGood HZ.out).mono ?_
    intro e w2 hR
    obtain ⟨A2, B2, c2, d2, rfl, hA2, hB2, hb2, nA2, nB2⟩ := hR.as HW.out rfl
    have HR2 := Lib.hid (RetH.fin (c := c2) (d := d2) (E := 0) (g := w.heap.size + 1) (HB1.out.trans (hb2.mono HB1.out.size)) HB1.out.size HX1.out.2.lt (by omega) hA2 hB2 nA2 nB2)
    have HX2 := Lib.hid (HX1.out.2.below hb2)
    clear x0 x1 x2 x3 x4 x5 x6 x7 hlt hR hA2 hB2 hb2 nA2 nB2 HW
    obtain ⟨x0, x1, x2, x3, x4, x5, x6, x7⟩ := HX2.out.cells
    obtain ⟨f0, f1, f2, f3, f4, f5, f6, f7⟩ := HX2.out.frozen
    have hlt := HX2.out.lt
    generalize swF ⟨k, s, z, zc, ct, sm, P, Q⟩ u = r at *
    obtain ⟨rk, rs, rz, rzc, rct, rsm, rP, rQ⟩ := r
    simp only [hvA]
    go_wp2_with fail
    exact bodyPost_ret (v := .tuple #[.agg #[.int .i64 rk, .int .i64 rs, .int .i64 rz, .int .u64 rzc, .int .u64 rct, .int .i64 rsm, .slice A2 rP.length c2, .slice B2 rQ.length d2], .int .i64 0]) (by simp [results, Tryz.results143, go_sem, x0, x1, x2, x3, x4, x5, x6, x7]) rfl (HR2.out _ _ _ _ _ _ _ _)
  | true =>
    obtain ⟨d3, d4⟩ := d34 rfl
    clear d34
    go_enter Tryz.func143, Tryz.ntmps143
    go_wp2_with fail
    generalize ((w.alloc (.cells #[.int .i64 k, .int .i64 s, .int .i64 z, .int .u64 zc, .int .u64 ct, .int .i64 sm, .slice A P.length c, .slice B Q.length d] 39)).alloc (.cells #[.int .i64 0, .int .i64 0, .int .i64 0, .int .u64 0, .int .u64 0, .int .i64 0, .slice none 0 0, .slice none 0 0] 39)) = w0 at *
    refine (checkN k s z zc ct (.int .i64 sm) A B c d P Q w0 HO.out.zc HO.out.toGood.z1 (HP.out.below HB0.out) (HQ.out.below HB0.out) 0 HO.out.chk).mono ?_
    rintro e w1 ⟨rfl, hb1⟩
    have HX1 := Lib.hid (And.intro (HX.out.1.below hb1) (HX.out.2.below hb1))
    have HB1 := Lib.hid (HB0.out.trans (hb1.mono HB0.out.size))
    obtain ⟨x0, x1, x2, x3, x4, x5, x6, x7⟩ := HX1.out.1.cells
    have hlt := HX1.out.1.lt
    clear hb1
    go_wp2_with fail
    refine (swallow_any k s z zc ct sm u A B c d P Q w1 (HP.out.below HB1.out) (HQ.out.below HB1.out) hl1 hl2 HO.out.toGood HZ.out).mono ?_
    intro e w2 hR
    obtain ⟨A2, B2, c2, d2, rfl, hA2, hB2, hb2, nA2, nB2⟩ := hR.as HW.out rfl
    have HR2 := Lib.hid (RetH.fin (c := c2) (d := d2) (E := 0) (g := w.heap.size + 1) (HB1.out.trans (hb2.mono HB1.out.size)) HB1.out.size HX1.out.2.lt (by omega) hA2 hB2 nA2 nB2)
    have HX2 := Lib.hid (HX1.out.2.below hb2)
    clear x0 x1 x2 x3 x4 x5 x6 x7 hlt hR hA2 hB2 hb2 nA2 nB2 HW
    obtain ⟨x0, x1, x2, x3, x4, x5, x6, x7⟩ := HX2.out.cells
    obtain ⟨f0, f1, f2, f3, f4, f5, f6, f7⟩ := HX2.out.frozen
    have hlt := HX2.out.lt
    generalize swF ⟨k, s, z, zc, ct, sm, P, Q⟩ u = r at *
    obtain ⟨rk, rs, rz, rzc, rct, rsm, rP, rQ⟩ := r
    simp only [hvA]
    go_wp2_with fail
    exact bodyPost_ret (v := .tuple #[.agg #[.int .i64 rk, .int .i64 rs, .int .i64 rz, .int .u64 rzc, .int .u64 rct, .int .i64 rsm, .slice A2 rP.length c2, .slice B2 rQ.length d2], .int .i64 0]) (by simp [results, Tryz.results143, go_sem, x0, x1, x2, x3, x4, x5, x6, x7]) rfl (HR2.out _ _ _ _ _ _ _ _)
end Go.Proofs.YtakomfnajeolcaaGreatDoor
