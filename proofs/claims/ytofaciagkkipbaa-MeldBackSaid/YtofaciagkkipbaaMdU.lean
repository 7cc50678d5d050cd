/- The law MeldKeeps, for every input. -/
import Derived.Test.YtofaciagkkipbaaMdT
namespace Go.Proofs.Ytofaciagkkipbaa
open Go.RowKit Go.Sort Go.Maps
set_option linter.unusedVariables false

set_option maxHeartbeats 4000000 in
set_option maxRecDepth 100000 in
theorem keeps_bad (k s z zc ct sm : Int) (A B : Option Addr) (c d : Nat) (P Q : List (Int × Int)) (mid t u : Int) (w : World) (z0 : 0 ≤ zc) (z1 : zc ≤ 18446744073709551615) (hP : Bk w A P) (hQ : Bk w B Q) (hr : fewB ⟨k, s, z, zc, ct, sm, P, Q⟩ = true) (o : Ok ⟨k, s, z, zc, ct, sm, P, Q⟩)
    (hn : ¬ (rightB t = true ∧ t ≤ s)) :
    Calls Try.prog 6 #[.agg #[.int .i64 k, .int .i64 s, .int .i64 z, .int .u64 zc, .int .u64 ct, .int .i64 sm, .slice A P.length c, .slice B Q.length d], .int .i64 mid, .int .i64 t, .int .i64 u] w fun e w' => e = .returned (.bool true) ∧ Below w.heap.size w w' := by
  have hb0 : Below w.heap.size w (w.alloc (.cells #[.int .i64 k, .int .i64 s, .int .i64 z, .int .u64 zc, .int .u64 ct, .int .i64 sm, .slice A P.length c, .slice B Q.length d] 25)) := (Below.refl _ _).alloc (Nat.le_refl _) _
  have HX := Lib.hid (Box.new w (.int .i64 k) (.int .i64 s) (.int .i64 z) (.int .u64 zc) (.int .u64 ct) (.int .i64 sm) (.slice A P.length c) (.slice B Q.length d))
  have HP := Lib.hid (And.intro (hP.below hb0) (hQ.below hb0))
  have HB0 := Lib.hid hb0
  have HO := Lib.hid o
  have HF := Lib.hid hr
  have HZ := Lib.hid (And.intro z0 z1)
  have HT := Lib.hid hn
  clear hP hQ hb0 o hr z0 z1 hn
  go_enter Try.func6, Try.ntmps6
  go_wp2_with fail
  have hb1 : Below w.heap.size w ((w.alloc (.cells #[.int .i64 k, .int .i64 s, .int .i64 z, .int .u64 zc, .int .u64 ct, .int .i64 sm, .slice A P.length c, .slice B Q.length d] 25)).alloc (.cells #[.int .i64 k, .int .i64 s, .int .i64 z, .int .u64 zc, .int .u64 ct, .int .i64 sm, .slice A P.length c, .slice B Q.length d] 25)) := HB0.out.alloc HB0.out.size _
  have HX1 := Lib.hid (And.intro (HX.out.alloc (.cells #[.int .i64 k, .int .i64 s, .int .i64 z, .int .u64 zc, .int .u64 ct, .int .i64 sm, .slice A P.length c, .slice B Q.length d] 25)) (Box.newAt (w.alloc (.cells #[.int .i64 k, .int .i64 s, .int .i64 z, .int .u64 zc, .int .u64 ct, .int .i64 sm, .slice A P.length c, .slice B Q.length d] 25)) (w.heap.size + 1) (by simp) (.int .i64 k) (.int .i64 s) (.int .i64 z) (.int .u64 zc) (.int .u64 ct) (.int .i64 sm) (.slice A P.length c) (.slice B Q.length d)))
  have HP1 := Lib.hid (And.intro (HP.out.1.below ((Below.refl _ _).alloc (Nat.le_refl _) (.cells #[.int .i64 k, .int .i64 s, .int .i64 z, .int .u64 zc, .int .u64 ct, .int .i64 sm, .slice A P.length c, .slice B Q.length d] 25))) (HP.out.2.below ((Below.refl _ _).alloc (Nat.le_refl _) (.cells #[.int .i64 k, .int .i64 s, .int .i64 z, .int .u64 zc, .int .u64 ct, .int .i64 sm, .slice A P.length c, .slice B Q.length d] 25))))
  have HB1 := Lib.hid hb1
  clear hb1 HX HP HB0
  generalize ((w.alloc (.cells #[.int .i64 k, .int .i64 s, .int .i64 z, .int .u64 zc, .int .u64 ct, .int .i64 sm, .slice A P.length c, .slice B Q.length d] 25)).alloc (.cells #[.int .i64 k, .int .i64 s, .int .i64 z, .int .u64 zc, .int .u64 ct, .int .i64 sm, .slice A P.length c, .slice B Q.length d] 25)) = w0 at *
  refine (lright_any (some ⟨w.heap.size + 1, 0, none⟩) 1 1 [⟨k, s, z, zc, ct, sm, P, Q⟩] w0 rfl (Hl.one HX1.out.2 HP1.out.1 HP1.out.2 HZ.out.1 HZ.out.2)).mono ?_
  rintro e w1 ⟨rfl, hb2⟩
  have hRR : rightF [⟨k, s, z, zc, ct, sm, P, Q⟩] = true := by unfold rightF; rw [List.all_cons, HF.out]; rfl
  rw [hRR]
  have HX2 := Lib.hid (HX1.out.1.below hb2)
  have HP2 := Lib.hid (And.intro (HP1.out.1.below hb2) (HP1.out.2.below hb2))
  have HB2 := Lib.hid (HB1.out.trans (hb2.mono HB1.out.size))
  obtain ⟨x0, x1, x2, x3, x4, x5, x6, x7⟩ := HX2.out.cells
  have e0 := HX2.out.lt
  clear hb2 hRR HX1 HP1 HB1
  go_wp2_with fail
  refine (down_bad k s z zc ct sm t A B c d P Q w1 HT.out).mono ?_
  rintro e w2 ⟨A3, B3, c3, d3, rfl, hA3, hB3, hb3, _, _⟩
  have HX3 := Lib.hid (HX2.out.below hb3)
  have HB3 := Lib.hid (HB2.out.trans (hb3.mono HB2.out.size))
  have HA3 := Lib.hid (And.intro (HP2.out.1.below hb3) (HP2.out.2.below hb3))
  clear x0 x1 x2 x3 x4 x5 x6 x7 e0 hA3 hB3 hb3 HX2 HP2 HB2
  obtain ⟨x0, x1, x2, x3, x4, x5, x6, x7⟩ := HX3.out.cells
  have e0 := HX3.out.lt
  have hvv : ∀ v : Int, (v != v) = false := by simp
  simp only [hvA, zeroV]
  go_wp2_with fail
  have hwf : Below w2.heap.size w2 (w2.alloc (.cells #[.int .i64 0, .int .i64 0, .int .i64 0, .int .u64 0, .int .u64 0, .int .i64 0, .slice A3 0 c3, .slice B3 0 d3] 25)) := (Below.refl _ _).alloc (Nat.le_refl _) _
  have HXf := Lib.hid (Box.below (HX3.out) hwf)
  have HBf := Lib.hid ((HB3.out).trans (hwf.mono (HB3.out).size))
  have HPf := Lib.hid (And.intro ((HA3.out).1.below hwf) ((HA3.out).2.below hwf))
  clear x0 x1 x2 x3 x4 x5 x6 x7 e0 hwf
  generalize w2.alloc (.cells #[.int .i64 0, .int .i64 0, .int .i64 0, .int .u64 0, .int .u64 0, .int .i64 0, .slice A3 0 c3, .slice B3 0 d3] 25) = wf at *
  rcases widenE_cases HO.out u with ⟨_, hz1, hz2⟩ | ⟨_, hbad⟩
  · obtain ⟨rz, rzc, rP, rQ, hr, hrz, hrc, orr⟩ := widen_form HO.out hz2
    have HWR := Lib.hid (And.intro hr orr)
    have r1 : decide (u ≤ rz) = true := by simpa using hrz
    have r2 : decide (zc ≤ rzc) = true := by simpa using hrc
    clear hr orr hrz hrc
    refine (widen_good k s z zc ct sm u A B c d P Q wf HPf.out.1 HPf.out.2 HO.out hz1 hz2).mono ?_
    intro e w9 hR
    obtain ⟨A9, B9, c9, d9, rfl, hA9, hB9, hb9, _, _⟩ := hR.as HWR.out.1 rfl
    have hwg : Below w9.heap.size w9 (w9.alloc (.cells #[.int .i64 k, .int .i64 s, .int .i64 rz, .int .u64 rzc, .int .u64 ct, .int .i64 sm, .slice A9 rP.length c9, .slice B9 rQ.length d9] 25)) := (Below.refl _ _).alloc (Nat.le_refl _) _
    have HX9 := Lib.hid (And.intro ((HXf.out.below hb9).below hwg) (Box.new w9 (.int .i64 k) (.int .i64 s) (.int .i64 rz) (.int .u64 rzc) (.int .u64 ct) (.int .i64 sm) (.slice A9 rP.length c9) (.slice B9 rQ.length d9)))
    have HB9 := Lib.hid ((HBf.out.trans (hb9.mono HBf.out.size)).trans (hwg.mono (HBf.out.trans (hb9.mono HBf.out.size)).size))
    have HA9 := Lib.hid (And.intro (hA9.below hwg) (hB9.below hwg))
    clear hR hA9 hB9 hb9 hwg HXf HBf HPf hz1 hz2
    simp only [hvA]
    go_wp2_with fail
    obtain ⟨gw, hgw⟩ : ∃ g, w9.heap.size = g := ⟨_, rfl⟩
    rw [hgw] at HX9 ⊢
    generalize w9.alloc (.cells #[.int .i64 k, .int .i64 s, .int .i64 rz, .int .u64 rzc, .int .u64 ct, .int .i64 sm, .slice A9 rP.length c9, .slice B9 rQ.length d9] 25) = w10 at *
    refine (awake07 w10).mono ?_
    rintro e w11 ⟨rfl, hb11⟩
    have HX11 := Lib.hid (And.intro (HX9.out.1.below hb11) (HX9.out.2.below hb11))
    have HB11 := Lib.hid (HB9.out.trans (hb11.mono HB9.out.size))
    have HA11 := Lib.hid (And.intro (HA9.out.1.below hb11) (HA9.out.2.below hb11))
    obtain ⟨x0, x1, x2, x3, x4, x5, x6, x7⟩ := HX11.out.1.cells
    obtain ⟨y0, y1, y2, y3, y4, y5, y6, y7⟩ := HX11.out.2.cells
    have e0 := HX11.out.1.lt
    have e1 := HX11.out.2.lt
    clear hb11 hgw HX9 HB9 HA9
    go_wp2_with fail
    refine (checkN k s rz rzc ct (.int .i64 sm) A9 B9 c9 d9 rP rQ w11 HWR.out.2.zc HWR.out.2.toGood.z1 HA11.out.1 HA11.out.2 0 HWR.out.2.chk).mono ?_
    rintro e w12 ⟨rfl, hb12⟩
    have HX12 := Lib.hid (And.intro (HX11.out.1.below hb12) (HX11.out.2.below hb12))
    have HB12 := Lib.hid (HB11.out.trans (hb12.mono HB11.out.size))
    clear x0 x1 x2 x3 x4 x5 x6 x7 y0 y1 y2 y3 y4 y5 y6 y7 e0 e1 hb12 HX11 HB11 HA11
    obtain ⟨x0, x1, x2, x3, x4, x5, x6, x7⟩ := HX12.out.1.cells
    obtain ⟨y0, y1, y2, y3, y4, y5, y6, y7⟩ := HX12.out.2.cells
    have e0 := HX12.out.1.lt
    have e1 := HX12.out.2.lt
    go_wp2_with fail
    go_ret
    exact ⟨rfl, HB12.out⟩
  · refine (widen_bad k s z zc ct sm u A B c d P Q wf hbad).mono ?_
    rintro e w9 ⟨A9, B9, c9, d9, rfl, hA9, hB9, hb9, _, _⟩
    have HB9 := Lib.hid (HBf.out.trans (hb9.mono HBf.out.size))
    clear hA9 hB9 hb9 hbad HXf HBf HPf
    simp only [hvA, zeroV]
    go_wp2_with fail
    have HB10 := Lib.hid (HB9.out.alloc HB9.out.size (.cells #[.int .i64 0, .int .i64 0, .int .i64 0, .int .u64 0, .int .u64 0, .int .i64 0, .slice A9 0 c9, .slice B9 0 d9] 25))
    generalize w9.alloc (.cells #[.int .i64 0, .int .i64 0, .int .i64 0, .int .u64 0, .int .u64 0, .int .i64 0, .slice A9 0 c9, .slice B9 0 d9] 25) = w10 at *
    refine (awake07 w10).mono ?_
    rintro e w11 ⟨rfl, hb11⟩
    have HB11 := Lib.hid (HB10.out.trans (hb11.mono HB10.out.size))
    clear hb11
    go_wp2_with fail
    go_ret
    exact ⟨rfl, HB11.out⟩
set_option maxHeartbeats 4000000 in
set_option maxRecDepth 100000 in
theorem keeps_none (k s z zc ct sm : Int) (A B : Option Addr) (c d : Nat) (P Q : List (Int × Int)) (mid t u : Int) (w : World) (z0 : 0 ≤ zc) (z1 : zc ≤ 18446744073709551615) (hP : Bk w A P) (hQ : Bk w B Q) (hr : fewB ⟨k, s, z, zc, ct, sm, P, Q⟩ = false) :
    Calls Try.prog 6 #[.agg #[.int .i64 k, .int .i64 s, .int .i64 z, .int .u64 zc, .int .u64 ct, .int .i64 sm, .slice A P.length c, .slice B Q.length d], .int .i64 mid, .int .i64 t, .int .i64 u] w fun e w' => e = .returned (.bool true) ∧ Below w.heap.size w w' := by
  have hb0 : Below w.heap.size w (w.alloc (.cells #[.int .i64 k, .int .i64 s, .int .i64 z, .int .u64 zc, .int .u64 ct, .int .i64 sm, .slice A P.length c, .slice B Q.length d] 25)) := (Below.refl _ _).alloc (Nat.le_refl _) _
  have HX := Lib.hid (Box.new w (.int .i64 k) (.int .i64 s) (.int .i64 z) (.int .u64 zc) (.int .u64 ct) (.int .i64 sm) (.slice A P.length c) (.slice B Q.length d))
  have HP := Lib.hid (And.intro (hP.below hb0) (hQ.below hb0))
  have HB0 := Lib.hid hb0
  have HF := Lib.hid hr
  have HZ := Lib.hid (And.intro z0 z1)
  clear hP hQ hb0 hr z0 z1
  go_enter Try.func6, Try.ntmps6
  go_wp2_with fail
  have hb1 : Below w.heap.size w ((w.alloc (.cells #[.int .i64 k, .int .i64 s, .int .i64 z, .int .u64 zc, .int .u64 ct, .int .i64 sm, .slice A P.length c, .slice B Q.length d] 25)).alloc (.cells #[.int .i64 k, .int .i64 s, .int .i64 z, .int .u64 zc, .int .u64 ct, .int .i64 sm, .slice A P.length c, .slice B Q.length d] 25)) := HB0.out.alloc HB0.out.size _
  have HX1 := Lib.hid (And.intro (HX.out.alloc (.cells #[.int .i64 k, .int .i64 s, .int .i64 z, .int .u64 zc, .int .u64 ct, .int .i64 sm, .slice A P.length c, .slice B Q.length d] 25)) (Box.newAt (w.alloc (.cells #[.int .i64 k, .int .i64 s, .int .i64 z, .int .u64 zc, .int .u64 ct, .int .i64 sm, .slice A P.length c, .slice B Q.length d] 25)) (w.heap.size + 1) (by simp) (.int .i64 k) (.int .i64 s) (.int .i64 z) (.int .u64 zc) (.int .u64 ct) (.int .i64 sm) (.slice A P.length c) (.slice B Q.length d)))
  have HP1 := Lib.hid (And.intro (HP.out.1.below ((Below.refl _ _).alloc (Nat.le_refl _) (.cells #[.int .i64 k, .int .i64 s, .int .i64 z, .int .u64 zc, .int .u64 ct, .int .i64 sm, .slice A P.length c, .slice B Q.length d] 25))) (HP.out.2.below ((Below.refl _ _).alloc (Nat.le_refl _) (.cells #[.int .i64 k, .int .i64 s, .int .i64 z, .int .u64 zc, .int .u64 ct, .int .i64 sm, .slice A P.length c, .slice B Q.length d] 25))))
  have HB1 := Lib.hid hb1
  clear hb1 HX HP HB0
  generalize ((w.alloc (.cells #[.int .i64 k, .int .i64 s, .int .i64 z, .int .u64 zc, .int .u64 ct, .int .i64 sm, .slice A P.length c, .slice B Q.length d] 25)).alloc (.cells #[.int .i64 k, .int .i64 s, .int .i64 z, .int .u64 zc, .int .u64 ct, .int .i64 sm, .slice A P.length c, .slice B Q.length d] 25)) = w0 at *
  refine (lright_any (some ⟨w.heap.size + 1, 0, none⟩) 1 1 [⟨k, s, z, zc, ct, sm, P, Q⟩] w0 rfl (Hl.one HX1.out.2 HP1.out.1 HP1.out.2 HZ.out.1 HZ.out.2)).mono ?_
  rintro e w1 ⟨rfl, hb2⟩
  have hRR : rightF [⟨k, s, z, zc, ct, sm, P, Q⟩] = false := by unfold rightF; rw [List.all_cons, HF.out]; rfl
  rw [hRR]
  have HB2 := Lib.hid (HB1.out.trans (hb2.mono HB1.out.size))
  clear hb2 hRR HX1 HP1 HB1
  go_wp2_with fail
  refine (awake07 w1).mono ?_
  rintro e w2 ⟨rfl, hb3⟩
  have HB3 := Lib.hid (HB2.out.trans (hb3.mono HB2.out.size))
  clear hb3
  go_wp2_with fail
  go_ret
  exact ⟨rfl, HB3.out⟩
theorem fewB_ok {h : HV} (hf : fewB h = true) (z0 : 0 ≤ h.zc) (hs : inI64 h.sm) (hP : ∀ p ∈ h.P, Wb p) (hQ : ∀ p ∈ h.Q, Wb p) : Ok h := by
  unfold fewB at hf
  rw [decide_eq_true_eq] at hf
  exact Ok.of hf.2.2 z0 hs (wb_nn hP) (wb_nn hQ)
theorem keeps_walk (k s z zc ct sm : Int) (A B : Option Addr) (c d : Nat) (P Q : List (Int × Int)) (mid t u : Int) (w : World) (z0 : 0 ≤ zc) (z1 : zc ≤ 18446744073709551615) (hP : Bk w A P) (hQ : Bk w B Q) (hs : inI64 sm) :
    Calls Try.prog 6 #[.agg #[.int .i64 k, .int .i64 s, .int .i64 z, .int .u64 zc, .int .u64 ct, .int .i64 sm, .slice A P.length c, .slice B Q.length d], .int .i64 mid, .int .i64 t, .int .i64 u] w fun e w' => e = .returned (.bool true) ∧ Below w.heap.size w w' := by
  rcases hf : fewB ⟨k, s, z, zc, ct, sm, P, Q⟩ with _ | _
  · exact keeps_none k s z zc ct sm A B c d P Q mid t u w z0 z1 hP hQ hf
  · have o : Ok ⟨k, s, z, zc, ct, sm, P, Q⟩ := fewB_ok hf z0 hs hP.2.1 hQ.2.1
    by_cases ht : rightB t = true ∧ t ≤ s
    · exact keeps_main k s z zc ct sm A B c d P Q mid t u w z0 z1 hP hQ hf o ht.1 ht.2
    · exact keeps_bad k s z zc ct sm A B c d P Q mid t u w z0 z1 hP hQ hf o ht
end Go.Proofs.Ytofaciagkkipbaa
