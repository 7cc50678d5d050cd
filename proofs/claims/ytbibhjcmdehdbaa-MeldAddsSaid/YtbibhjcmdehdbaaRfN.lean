/- The law MeldAdds. -/
import Derived.Test.YtbibhjcmdehdbaaRfM
namespace Go.Proofs.Ytbibhjcmdehdbaa
open Go.RowKit Go.Sort Go.Maps
set_option linter.unusedVariables false

set_option maxHeartbeats 4000000 in
set_option maxRecDepth 100000 in
theorem adds_main (a b : HV) (A B A' B' : Option Addr) (c d c' d' : Nat) (w : World) (hP : Bk w A a.P) (hQ : Bk w B a.Q) (hP' : Bk w A' b.P) (hQ' : Bk w B' b.Q) (oa : Ok a) (ob : Ok b) (hf : fewB a = true ∧ fewB b = true) :
    Calls Try.prog 3 #[.agg #[.int .i64 a.k, .int .i64 a.s, .int .i64 a.z, .int .u64 a.zc, .int .u64 a.ct, .int .i64 a.sm, .slice A a.P.length c, .slice B a.Q.length d], .agg #[.int .i64 b.k, .int .i64 b.s, .int .i64 b.z, .int .u64 b.zc, .int .u64 b.ct, .int .i64 b.sm, .slice A' b.P.length c', .slice B' b.Q.length d']] w fun e w' => e = .returned (.bool true) ∧ Below w.heap.size w w' := by
  have HF := Lib.hid hf
  have HO := Lib.hid (And.intro oa ob)
  have za : 0 ≤ a.zc ∧ a.zc ≤ 18446744073709551615 := ⟨oa.zc, oa.toGood.z1⟩
  have zb : 0 ≤ b.zc ∧ b.zc ≤ 18446744073709551615 := ⟨ob.zc, ob.toGood.z1⟩
  clear hf oa ob
  have HKw := Lib.hid (And.intro (And.intro hP hQ) (And.intro hP' hQ'))
  have hb0 := (((Below.refl w.heap.size w).alloc (Nat.le_refl _) (.cells #[.int .i64 a.k, .int .i64 a.s, .int .i64 a.z, .int .u64 a.zc, .int .u64 a.ct, .int .i64 a.sm, .slice A a.P.length c, .slice B a.Q.length d] 25)).alloc (by simp) (.cells #[.int .i64 b.k, .int .i64 b.s, .int .i64 b.z, .int .u64 b.zc, .int .u64 b.ct, .int .i64 b.sm, .slice A' b.P.length c', .slice B' b.Q.length d'] 25)).alloc (by simp; omega) (.cells #[.int .i64 a.k, .int .i64 a.s, .int .i64 a.z, .int .u64 a.zc, .int .u64 a.ct, .int .i64 a.sm, .slice A a.P.length c, .slice B a.Q.length d, .int .i64 b.k, .int .i64 b.s, .int .i64 b.z, .int .u64 b.zc, .int .u64 b.ct, .int .i64 b.sm, .slice A' b.P.length c', .slice B' b.Q.length d'] 25)
  have bx0 := ((Box.new w (.int .i64 a.k) (.int .i64 a.s) (.int .i64 a.z) (.int .u64 a.zc) (.int .u64 a.ct) (.int .i64 a.sm) (.slice A a.P.length c) (.slice B a.Q.length d)).alloc (.cells #[.int .i64 b.k, .int .i64 b.s, .int .i64 b.z, .int .u64 b.zc, .int .u64 b.ct, .int .i64 b.sm, .slice A' b.P.length c', .slice B' b.Q.length d'] 25)).alloc (.cells #[.int .i64 a.k, .int .i64 a.s, .int .i64 a.z, .int .u64 a.zc, .int .u64 a.ct, .int .i64 a.sm, .slice A a.P.length c, .slice B a.Q.length d, .int .i64 b.k, .int .i64 b.s, .int .i64 b.z, .int .u64 b.zc, .int .u64 b.ct, .int .i64 b.sm, .slice A' b.P.length c', .slice B' b.Q.length d'] 25)
  have bx1 := (Box.newAt (w.alloc (.cells #[.int .i64 a.k, .int .i64 a.s, .int .i64 a.z, .int .u64 a.zc, .int .u64 a.ct, .int .i64 a.sm, .slice A a.P.length c, .slice B a.Q.length d] 25)) (w.heap.size + 1) (by simp) (.int .i64 b.k) (.int .i64 b.s) (.int .i64 b.z) (.int .u64 b.zc) (.int .u64 b.ct) (.int .i64 b.sm) (.slice A' b.P.length c') (.slice B' b.Q.length d')).alloc (.cells #[.int .i64 a.k, .int .i64 a.s, .int .i64 a.z, .int .u64 a.zc, .int .u64 a.ct, .int .i64 a.sm, .slice A a.P.length c, .slice B a.Q.length d, .int .i64 b.k, .int .i64 b.s, .int .i64 b.z, .int .u64 b.zc, .int .u64 b.ct, .int .i64 b.sm, .slice A' b.P.length c', .slice B' b.Q.length d'] 25)
  have bx2 := Hl.two (w := ((w.alloc (.cells #[.int .i64 a.k, .int .i64 a.s, .int .i64 a.z, .int .u64 a.zc, .int .u64 a.ct, .int .i64 a.sm, .slice A a.P.length c, .slice B a.Q.length d] 25)).alloc (.cells #[.int .i64 b.k, .int .i64 b.s, .int .i64 b.z, .int .u64 b.zc, .int .u64 b.ct, .int .i64 b.sm, .slice A' b.P.length c', .slice B' b.Q.length d'] 25)).alloc (.cells #[.int .i64 a.k, .int .i64 a.s, .int .i64 a.z, .int .u64 a.zc, .int .u64 a.ct, .int .i64 a.sm, .slice A a.P.length c, .slice B a.Q.length d, .int .i64 b.k, .int .i64 b.s, .int .i64 b.z, .int .u64 b.zc, .int .u64 b.ct, .int .i64 b.sm, .slice A' b.P.length c', .slice B' b.Q.length d'] 25)) (g := w.heap.size + 1 + 1) (by have := heap_alloc_new ((w.alloc (.cells #[.int .i64 a.k, .int .i64 a.s, .int .i64 a.z, .int .u64 a.zc, .int .u64 a.ct, .int .i64 a.sm, .slice A a.P.length c, .slice B a.Q.length d] 25)).alloc (.cells #[.int .i64 b.k, .int .i64 b.s, .int .i64 b.z, .int .u64 b.zc, .int .u64 b.ct, .int .i64 b.sm, .slice A' b.P.length c', .slice B' b.Q.length d'] 25)) (.cells #[.int .i64 a.k, .int .i64 a.s, .int .i64 a.z, .int .u64 a.zc, .int .u64 a.ct, .int .i64 a.sm, .slice A a.P.length c, .slice B a.Q.length d, .int .i64 b.k, .int .i64 b.s, .int .i64 b.z, .int .u64 b.zc, .int .u64 b.ct, .int .i64 b.sm, .slice A' b.P.length c', .slice B' b.Q.length d'] 25); simpa using this) (hP.below hb0) (hQ.below hb0) (hP'.below hb0) (hQ'.below hb0) za zb
  have HX0 := Lib.hid (And.intro bx0 bx1)
  have HK0 := Lib.hid (And.intro (hP.below hb0) (And.intro (hQ.below hb0) (And.intro (hP'.below hb0) (hQ'.below hb0))))
  have HB0 := Lib.hid hb0
  have HL := Lib.hid bx2
  clear hP hQ hP' hQ' za zb hb0 bx0 bx1 bx2
  go_enter Try.func3, Try.ntmps3
  go_wp2_with fail
  generalize ((w.alloc (.cells #[.int .i64 a.k, .int .i64 a.s, .int .i64 a.z, .int .u64 a.zc, .int .u64 a.ct, .int .i64 a.sm, .slice A a.P.length c, .slice B a.Q.length d] 25)).alloc (.cells #[.int .i64 b.k, .int .i64 b.s, .int .i64 b.z, .int .u64 b.zc, .int .u64 b.ct, .int .i64 b.sm, .slice A' b.P.length c', .slice B' b.Q.length d'] 25)).alloc (.cells #[.int .i64 a.k, .int .i64 a.s, .int .i64 a.z, .int .u64 a.zc, .int .u64 a.ct, .int .i64 a.sm, .slice A a.P.length c, .slice B a.Q.length d, .int .i64 b.k, .int .i64 b.s, .int .i64 b.z, .int .u64 b.zc, .int .u64 b.ct, .int .i64 b.sm, .slice A' b.P.length c', .slice B' b.Q.length d'] 25) = w0 at *
  refine (lright_any (some ⟨w.heap.size + 1 + 1, 0, none⟩) 2 2 [a, b] w0 rfl HL.out).mono ?_
  rintro e w1 ⟨rfl, hb⟩
  have hRR : rightF [a, b] = true := by unfold rightF; rw [List.all_cons, List.all_cons, HF.out.1, HF.out.2]; rfl
  rw [hRR]
  clear hRR HL
  have HX1 := Lib.hid (And.intro (HX0.out.1.below hb) (HX0.out.2.below hb))
  have HK1 := Lib.hid (And.intro (HK0.out.1.below hb) (And.intro (HK0.out.2.1.below hb) (And.intro (HK0.out.2.2.1.below hb) (HK0.out.2.2.2.below hb))))
  have HB1 := Lib.hid (HB0.out.trans (hb.mono HB0.out.size))
  clear HB0 HX0 HK0
  clear hb
  obtain ⟨x00, x01, x02, x03, x04, x05, x06, x07⟩ := HX1.out.1.cells
  have l0 := HX1.out.1.lt
  obtain ⟨x10, x11, x12, x13, x14, x15, x16, x17⟩ := HX1.out.2.cells
  have l1 := HX1.out.2.lt
  go_wp2_with fail
  refine (add_h a b A B A' B' c d c' d' w1 (HK1.out.1) (HK1.out.2.1) (HK1.out.2.2.1) (HK1.out.2.2.2) HO.out.1 HO.out.2).mono ?_
  rintro e w2 ⟨x, y, htwo, hR⟩
  have HT := Lib.hid htwo
  clear htwo
  obtain ⟨r, hr⟩ : ∃ r, mAddO x y = r := ⟨_, rfl⟩
  obtain ⟨E, hE⟩ : ∃ E, mAddE x y = E := ⟨_, rfl⟩
  have HRE := Lib.hid (And.intro hr hE)
  clear hr hE
  obtain ⟨A1, B1, c1, d1, rfl, hA, hB, hb, _, _⟩ := hR.as HRE.out.1 HRE.out.2
  simp only [hvA]
  clear hR
  have HX2 := Lib.hid (And.intro (HX1.out.1.below hb) (HX1.out.2.below hb))
  have HK2 := Lib.hid (And.intro (HK1.out.1.below hb) (And.intro (HK1.out.2.1.below hb) (And.intro (HK1.out.2.2.1.below hb) (And.intro (HK1.out.2.2.2.below hb) (And.intro (hA) (hB))))))
  have HB2 := Lib.hid (HB1.out.trans (hb.mono HB1.out.size))
  clear x00 x01 x02 x03 x04 x05 x06 x07 l0 x10 x11 x12 x13 x14 x15 x16 x17 l1 HB1 HX1 HK1
  clear hA hB hb
  obtain ⟨x00, x01, x02, x03, x04, x05, x06, x07⟩ := HX2.out.1.cells
  have l0 := HX2.out.1.lt
  obtain ⟨x10, x11, x12, x13, x14, x15, x16, x17⟩ := HX2.out.2.cells
  have l1 := HX2.out.2.lt
  go_wp2_with fail
  have HGgx := Lib.hid (And.intro (HX2.out.1.lt) (HX2.out.2.lt))
  have hw : Below w2.heap.size w2 (w2.alloc (.cells #[.int .i64 r.k, .int .i64 r.s, .int .i64 r.z, .int .u64 r.zc, .int .u64 r.ct, .int .i64 r.sm, .slice A1 r.P.length c1, .slice B1 r.Q.length d1] 25)) := (Below.refl _ _).alloc (Nat.le_refl _) _
  have HX3 := Lib.hid (And.intro (HX2.out.1.below hw) (And.intro (HX2.out.2.below hw) (Box.new w2 (.int .i64 r.k) (.int .i64 r.s) (.int .i64 r.z) (.int .u64 r.zc) (.int .u64 r.ct) (.int .i64 r.sm) (.slice A1 r.P.length c1) (.slice B1 r.Q.length d1))))
  have HK3 := Lib.hid (And.intro (HK2.out.1.below hw) (And.intro (HK2.out.2.1.below hw) (And.intro (HK2.out.2.2.1.below hw) (And.intro (HK2.out.2.2.2.1.below hw) (And.intro (HK2.out.2.2.2.2.1.below hw) (HK2.out.2.2.2.2.2.below hw))))))
  have HB3 := Lib.hid (HB2.out.trans (hw.mono HB2.out.size))
  clear x00 x01 x02 x03 x04 x05 x06 x07 l0 x10 x11 x12 x13 x14 x15 x16 x17 l1 HB2 hw HX2 HK2
  obtain ⟨gx, hgx⟩ : ∃ g, w2.heap.size = g := ⟨_, rfl⟩
  rw [hgx] at HX3 HGgx ⊢
  clear hgx
  generalize w2.alloc (.cells #[.int .i64 r.k, .int .i64 r.s, .int .i64 r.z, .int .u64 r.zc, .int .u64 r.ct, .int .i64 r.sm, .slice A1 r.P.length c1, .slice B1 r.Q.length d1] 25) = w3 at *
  refine (refadd_h a b A B A' B' c d c' d' w3 (HK3.out.1) (HK3.out.2.1) (HK3.out.2.2.1) (HK3.out.2.2.2.1) HO.out.1 HO.out.2).mono ?_
  rintro e w4 ⟨x9, y9, htwo, hR⟩
  obtain ⟨rfl, rfl⟩ := HT.out.unique htwo
  clear htwo
  obtain ⟨A2, B2, c2, d2, rfl, hA, hB, hb, _, _⟩ := hR.as HRE.out.1 HRE.out.2
  simp only [hvA]
  clear hR
  have HX4 := Lib.hid (And.intro (HX3.out.1.below hb) (And.intro (HX3.out.2.1.below hb) (HX3.out.2.2.below hb)))
  have HK4 := Lib.hid (And.intro (HK3.out.1.below hb) (And.intro (HK3.out.2.1.below hb) (And.intro (HK3.out.2.2.1.below hb) (And.intro (HK3.out.2.2.2.1.below hb) (And.intro (HK3.out.2.2.2.2.1.below hb) (And.intro (HK3.out.2.2.2.2.2.below hb) (And.intro (hA) (hB))))))))
  have HB4 := Lib.hid (HB3.out.trans (hb.mono HB3.out.size))
  clear HB3 HX3 HK3
  clear hA hB hb
  obtain ⟨x20, x21, x22, x23, x24, x25, x26, x27⟩ := HX4.out.2.2.cells
  have l2 := HX4.out.2.2.lt
  have hee : (E != E) = false := by simp
  go_wp2_with fail
  have HGgy := Lib.hid (And.intro (HX4.out.1.lt) (And.intro (HX4.out.2.1.lt) (HX4.out.2.2.lt)))
  have hw : Below w4.heap.size w4 (w4.alloc (.cells #[.int .i64 r.k, .int .i64 r.s, .int .i64 r.z, .int .u64 r.zc, .int .u64 r.ct, .int .i64 r.sm, .slice A2 r.P.length c2, .slice B2 r.Q.length d2] 25)) := (Below.refl _ _).alloc (Nat.le_refl _) _
  have HX5 := Lib.hid (And.intro (HX4.out.1.below hw) (And.intro (HX4.out.2.1.below hw) (And.intro (HX4.out.2.2.below hw) (Box.new w4 (.int .i64 r.k) (.int .i64 r.s) (.int .i64 r.z) (.int .u64 r.zc) (.int .u64 r.ct) (.int .i64 r.sm) (.slice A2 r.P.length c2) (.slice B2 r.Q.length d2)))))
  have HK5 := Lib.hid (And.intro (HK4.out.1.below hw) (And.intro (HK4.out.2.1.below hw) (And.intro (HK4.out.2.2.1.below hw) (And.intro (HK4.out.2.2.2.1.below hw) (And.intro (HK4.out.2.2.2.2.1.below hw) (And.intro (HK4.out.2.2.2.2.2.1.below hw) (And.intro (HK4.out.2.2.2.2.2.2.1.below hw) (HK4.out.2.2.2.2.2.2.2.below hw))))))))
  have HB5 := Lib.hid (HB4.out.trans (hw.mono HB4.out.size))
  clear x20 x21 x22 x23 x24 x25 x26 x27 l2 HB4 hw HX4 HK4
  obtain ⟨gy, hgy⟩ : ∃ g, w4.heap.size = g := ⟨_, rfl⟩
  rw [hgy] at HX5 HGgy ⊢
  clear hgy
  generalize w4.alloc (.cells #[.int .i64 r.k, .int .i64 r.s, .int .i64 r.z, .int .u64 r.zc, .int .u64 r.ct, .int .i64 r.sm, .slice A2 r.P.length c2, .slice B2 r.Q.length d2] 25) = w5 at *
  refine (rsame_h r r A1 B1 A2 B2 c1 d1 c2 d2 w5 (HK5.out.2.2.2.2.1) (HK5.out.2.2.2.2.2.1) (HK5.out.2.2.2.2.2.2.1) (HK5.out.2.2.2.2.2.2.2) rfl).mono ?_
  rintro e w6 ⟨rfl, hb⟩
  have HX6 := Lib.hid (And.intro (HX5.out.1.below hb) (And.intro (HX5.out.2.1.below hb) (And.intro (HX5.out.2.2.1.below hb) (HX5.out.2.2.2.below hb))))
  have HK6 := Lib.hid (And.intro (HK5.out.1.below hb) (And.intro (HK5.out.2.1.below hb) (And.intro (HK5.out.2.2.1.below hb) (And.intro (HK5.out.2.2.2.1.below hb) (And.intro (HK5.out.2.2.2.2.1.below hb) (And.intro (HK5.out.2.2.2.2.2.1.below hb) (And.intro (HK5.out.2.2.2.2.2.2.1.below hb) (HK5.out.2.2.2.2.2.2.2.below hb))))))))
  have HB6 := Lib.hid (HB5.out.trans (hb.mono HB5.out.size))
  clear HB5 HX5 HK5
  clear hb hee
  obtain ⟨x00, x01, x02, x03, x04, x05, x06, x07⟩ := HX6.out.1.cells
  have l0 := HX6.out.1.lt
  obtain ⟨x10, x11, x12, x13, x14, x15, x16, x17⟩ := HX6.out.2.1.cells
  have l1 := HX6.out.2.1.lt
  go_wp2_with fail
  obtain ⟨q, hq⟩ : ∃ r, mSubO x y = r := ⟨_, rfl⟩
  obtain ⟨E2, hE⟩ : ∃ E, mSubE x y = E := ⟨_, rfl⟩
  have HQE := Lib.hid (And.intro hq hE)
  clear hq hE
  refine (sub_h a b A B A' B' c d c' d' w6 (HK6.out.1) (HK6.out.2.1) (HK6.out.2.2.1) (HK6.out.2.2.2.1) HO.out.1 HO.out.2).mono ?_
  rintro e w7 ⟨x9, y9, htwo, hR⟩
  obtain ⟨rfl, rfl⟩ := HT.out.unique htwo
  clear htwo
  obtain ⟨A3, B3, c3, d3, rfl, hA, hB, hb, nA, nB⟩ := hR.as HQE.out.1 HQE.out.2
  simp only [hvA]
  clear hR
  have HN3 := Lib.hid (And.intro (nA.ne HX6.out.2.2.1.lt) (nB.ne HX6.out.2.2.1.lt))
  have HM3 := Lib.hid (And.intro (nA.ne HX6.out.2.2.2.lt) (nB.ne HX6.out.2.2.2.lt))
  clear nA nB
  have HX7 := Lib.hid (And.intro (HX6.out.1.below hb) (And.intro (HX6.out.2.1.below hb) (And.intro (HX6.out.2.2.1.below hb) (HX6.out.2.2.2.below hb))))
  have HK7 := Lib.hid (And.intro (HK6.out.1.below hb) (And.intro (HK6.out.2.1.below hb) (And.intro (HK6.out.2.2.1.below hb) (And.intro (HK6.out.2.2.2.1.below hb) (And.intro (HK6.out.2.2.2.2.1.below hb) (And.intro (HK6.out.2.2.2.2.2.1.below hb) (And.intro (HK6.out.2.2.2.2.2.2.1.below hb) (And.intro (HK6.out.2.2.2.2.2.2.2.below hb) (And.intro (hA) (hB))))))))))
  have HB7 := Lib.hid (HB6.out.trans (hb.mono HB6.out.size))
  clear x00 x01 x02 x03 x04 x05 x06 x07 l0 x10 x11 x12 x13 x14 x15 x16 x17 l1 HB6 HX6 HK6
  clear hA hB hb
  obtain ⟨x00, x01, x02, x03, x04, x05, x06, x07⟩ := HX7.out.1.cells
  have l0 := HX7.out.1.lt
  obtain ⟨x10, x11, x12, x13, x14, x15, x16, x17⟩ := HX7.out.2.1.cells
  have l1 := HX7.out.2.1.lt
  obtain ⟨x20, x21, x22, x23, x24, x25, x26, x27⟩ := HX7.out.2.2.1.cells
  have l2 := HX7.out.2.2.1.lt
  obtain ⟨f20, f21, f22, f23, f24, f25, f26, f27⟩ := HX7.out.2.2.1.frozen
  have ne0 : ¬ w.heap.size = gx := by have := HGgx.out; omega
  have en0 : ¬ gx = w.heap.size := by have := HGgx.out; omega
  have ne1 : ¬ w.heap.size + 1 = gx := by have := HGgx.out; omega
  have en1 : ¬ gx = w.heap.size + 1 := by have := HGgx.out; omega
  go_wp2_with fail
  clear x00 x01 x02 x03 x04 x05 x06 x07 l0 x10 x11 x12 x13 x14 x15 x16 x17 l1 x20 x21 x22 x23 x24 x25 x26 x27 l2 f20 f21 f22 f23 f24 f25 f26 f27 ne0 en0 ne1 en1
  have HX8 := Lib.hid (And.intro (Box.off8 (g' := gx) HX7.out.1 (by have := HGgx.out; omega) (.int .i64 q.k) (.int .i64 q.s) (.int .i64 q.z) (.int .u64 q.zc) (.int .u64 q.ct) (.int .i64 q.sm) (.slice A3 q.P.length c3) (.slice B3 q.Q.length d3)) (And.intro (Box.off8 (g' := gx) HX7.out.2.1 (by have := HGgx.out; omega) (.int .i64 q.k) (.int .i64 q.s) (.int .i64 q.z) (.int .u64 q.zc) (.int .u64 q.ct) (.int .i64 q.sm) (.slice A3 q.P.length c3) (.slice B3 q.Q.length d3)) (And.intro (HX7.out.2.2.1.put8 (.int .i64 q.k) (.int .i64 q.s) (.int .i64 q.z) (.int .u64 q.zc) (.int .u64 q.ct) (.int .i64 q.sm) (.slice A3 q.P.length c3) (.slice B3 q.Q.length d3)) (Box.off8 (g' := gx) HX7.out.2.2.2 (by have := HGgy.out; have := HGgx.out; omega) (.int .i64 q.k) (.int .i64 q.s) (.int .i64 q.z) (.int .u64 q.zc) (.int .u64 q.ct) (.int .i64 q.sm) (.slice A3 q.P.length c3) (.slice B3 q.Q.length d3)))))
  have HK8 := Lib.hid (And.intro (Bk.set8n (g := gx) HK7.out.1 (HKw.out.1.1.ne_lt (by have := HGgx.out; omega)) (.int .i64 q.k) (.int .i64 q.s) (.int .i64 q.z) (.int .u64 q.zc) (.int .u64 q.ct) (.int .i64 q.sm) (.slice A3 q.P.length c3) (.slice B3 q.Q.length d3)) (And.intro (Bk.set8n (g := gx) HK7.out.2.1 (HKw.out.1.2.ne_lt (by have := HGgx.out; omega)) (.int .i64 q.k) (.int .i64 q.s) (.int .i64 q.z) (.int .u64 q.zc) (.int .u64 q.ct) (.int .i64 q.sm) (.slice A3 q.P.length c3) (.slice B3 q.Q.length d3)) (And.intro (Bk.set8n (g := gx) HK7.out.2.2.1 (HKw.out.2.1.ne_lt (by have := HGgx.out; omega)) (.int .i64 q.k) (.int .i64 q.s) (.int .i64 q.z) (.int .u64 q.zc) (.int .u64 q.ct) (.int .i64 q.sm) (.slice A3 q.P.length c3) (.slice B3 q.Q.length d3)) (And.intro (Bk.set8n (g := gx) HK7.out.2.2.2.1 (HKw.out.2.2.ne_lt (by have := HGgx.out; omega)) (.int .i64 q.k) (.int .i64 q.s) (.int .i64 q.z) (.int .u64 q.zc) (.int .u64 q.ct) (.int .i64 q.sm) (.slice A3 q.P.length c3) (.slice B3 q.Q.length d3)) (And.intro (Bk.set8n (g := gx) HK7.out.2.2.2.2.2.2.2.2.1 (.inr HN3.out.1) (.int .i64 q.k) (.int .i64 q.s) (.int .i64 q.z) (.int .u64 q.zc) (.int .u64 q.ct) (.int .i64 q.sm) (.slice A3 q.P.length c3) (.slice B3 q.Q.length d3)) (Bk.set8n (g := gx) HK7.out.2.2.2.2.2.2.2.2.2 (.inr HN3.out.2) (.int .i64 q.k) (.int .i64 q.s) (.int .i64 q.z) (.int .u64 q.zc) (.int .u64 q.ct) (.int .i64 q.sm) (.slice A3 q.P.length c3) (.slice B3 q.Q.length d3)))))))
  have HB8 := Lib.hid (below_set8 (g := gx) HB7.out (by have := HGgx.out; omega) (.int .i64 q.k) (.int .i64 q.s) (.int .i64 q.z) (.int .u64 q.zc) (.int .u64 q.ct) (.int .i64 q.sm) (.slice A3 q.P.length c3) (.slice B3 q.Q.length d3))
  clear HX7 HK7 HB7
  generalize hW : ((((((((w7.setCell ⟨gx, 0, none⟩ (.int .i64 q.k)).setCell ⟨gx, 1, none⟩ (.int .i64 q.s)).setCell ⟨gx, 2, none⟩ (.int .i64 q.z)).setCell ⟨gx, 3, none⟩ (.int .u64 q.zc)).setCell ⟨gx, 4, none⟩ (.int .u64 q.ct)).setCell ⟨gx, 5, none⟩ (.int .i64 q.sm)).setCell ⟨gx, 6, none⟩ (.slice A3 q.P.length c3)).setCell ⟨gx, 7, none⟩ (.slice B3 q.Q.length d3)) = w8
  have hW' : set8 w7 (gx) (.int .i64 q.k) (.int .i64 q.s) (.int .i64 q.z) (.int .u64 q.zc) (.int .u64 q.ct) (.int .i64 q.sm) (.slice A3 q.P.length c3) (.slice B3 q.Q.length d3) = w8 := hW
  rw [hW'] at HX8 HB8 HK8
  clear hW hW'
  refine (refsub_h a b A B A' B' c d c' d' w8 (HK8.out.1) (HK8.out.2.1) (HK8.out.2.2.1) (HK8.out.2.2.2.1) HO.out.1 HO.out.2).mono ?_
  rintro e w9 ⟨x9, y9, htwo, hR⟩
  obtain ⟨rfl, rfl⟩ := HT.out.unique htwo
  clear htwo
  obtain ⟨A4, B4, c4, d4, rfl, hA, hB, hb, nA, nB⟩ := hR.as HQE.out.1 HQE.out.2
  simp only [hvA]
  clear hR
  have HN4 := Lib.hid (And.intro (nA.ne HX8.out.2.2.2.lt) (nB.ne HX8.out.2.2.2.lt))
  clear nA nB
  have HX9 := Lib.hid (And.intro (HX8.out.1.below hb) (And.intro (HX8.out.2.1.below hb) (And.intro (HX8.out.2.2.1.below hb) (HX8.out.2.2.2.below hb))))
  have HK9 := Lib.hid (And.intro (HK8.out.1.below hb) (And.intro (HK8.out.2.1.below hb) (And.intro (HK8.out.2.2.1.below hb) (And.intro (HK8.out.2.2.2.1.below hb) (And.intro (HK8.out.2.2.2.2.1.below hb) (And.intro (HK8.out.2.2.2.2.2.below hb) (And.intro (hA) (hB))))))))
  have HB9 := Lib.hid (HB8.out.trans (hb.mono HB8.out.size))
  clear HB8 HX8 HK8
  clear hA hB hb
  obtain ⟨x20, x21, x22, x23, x24, x25, x26, x27⟩ := HX9.out.2.2.1.cells
  have l2 := HX9.out.2.2.1.lt
  obtain ⟨x30, x31, x32, x33, x34, x35, x36, x37⟩ := HX9.out.2.2.2.cells
  have l3 := HX9.out.2.2.2.lt
  obtain ⟨f30, f31, f32, f33, f34, f35, f36, f37⟩ := HX9.out.2.2.2.frozen
  have ne2 : ¬ gx = gy := by have := HGgx.out; have := HGgy.out; omega
  have en2 : ¬ gy = gx := by have := HGgx.out; have := HGgy.out; omega
  go_wp2_with fail
  clear x20 x21 x22 x23 x24 x25 x26 x27 l2 x30 x31 x32 x33 x34 x35 x36 x37 l3 f30 f31 f32 f33 f34 f35 f36 f37 ne2 en2
  have HX10 := Lib.hid (And.intro (Box.off8 (g' := gy) HX9.out.1 (by have := HGgy.out; omega) (.int .i64 q.k) (.int .i64 q.s) (.int .i64 q.z) (.int .u64 q.zc) (.int .u64 q.ct) (.int .i64 q.sm) (.slice A4 q.P.length c4) (.slice B4 q.Q.length d4)) (And.intro (Box.off8 (g' := gy) HX9.out.2.1 (by have := HGgy.out; omega) (.int .i64 q.k) (.int .i64 q.s) (.int .i64 q.z) (.int .u64 q.zc) (.int .u64 q.ct) (.int .i64 q.sm) (.slice A4 q.P.length c4) (.slice B4 q.Q.length d4)) (And.intro (Box.off8 (g' := gy) HX9.out.2.2.1 (by have := HGgx.out; have := HGgy.out; omega) (.int .i64 q.k) (.int .i64 q.s) (.int .i64 q.z) (.int .u64 q.zc) (.int .u64 q.ct) (.int .i64 q.sm) (.slice A4 q.P.length c4) (.slice B4 q.Q.length d4)) (HX9.out.2.2.2.put8 (.int .i64 q.k) (.int .i64 q.s) (.int .i64 q.z) (.int .u64 q.zc) (.int .u64 q.ct) (.int .i64 q.sm) (.slice A4 q.P.length c4) (.slice B4 q.Q.length d4)))))
  have HK10 := Lib.hid (And.intro (Bk.set8n (g := gy) HK9.out.1 (HKw.out.1.1.ne_lt (by have := HGgy.out; omega)) (.int .i64 q.k) (.int .i64 q.s) (.int .i64 q.z) (.int .u64 q.zc) (.int .u64 q.ct) (.int .i64 q.sm) (.slice A4 q.P.length c4) (.slice B4 q.Q.length d4)) (And.intro (Bk.set8n (g := gy) HK9.out.2.1 (HKw.out.1.2.ne_lt (by have := HGgy.out; omega)) (.int .i64 q.k) (.int .i64 q.s) (.int .i64 q.z) (.int .u64 q.zc) (.int .u64 q.ct) (.int .i64 q.sm) (.slice A4 q.P.length c4) (.slice B4 q.Q.length d4)) (And.intro (Bk.set8n (g := gy) HK9.out.2.2.1 (HKw.out.2.1.ne_lt (by have := HGgy.out; omega)) (.int .i64 q.k) (.int .i64 q.s) (.int .i64 q.z) (.int .u64 q.zc) (.int .u64 q.ct) (.int .i64 q.sm) (.slice A4 q.P.length c4) (.slice B4 q.Q.length d4)) (And.intro (Bk.set8n (g := gy) HK9.out.2.2.2.1 (HKw.out.2.2.ne_lt (by have := HGgy.out; omega)) (.int .i64 q.k) (.int .i64 q.s) (.int .i64 q.z) (.int .u64 q.zc) (.int .u64 q.ct) (.int .i64 q.sm) (.slice A4 q.P.length c4) (.slice B4 q.Q.length d4)) (And.intro (Bk.set8n (g := gy) HK9.out.2.2.2.2.1 (.inr HM3.out.1) (.int .i64 q.k) (.int .i64 q.s) (.int .i64 q.z) (.int .u64 q.zc) (.int .u64 q.ct) (.int .i64 q.sm) (.slice A4 q.P.length c4) (.slice B4 q.Q.length d4)) (And.intro (Bk.set8n (g := gy) HK9.out.2.2.2.2.2.1 (.inr HM3.out.2) (.int .i64 q.k) (.int .i64 q.s) (.int .i64 q.z) (.int .u64 q.zc) (.int .u64 q.ct) (.int .i64 q.sm) (.slice A4 q.P.length c4) (.slice B4 q.Q.length d4)) (And.intro (Bk.set8n (g := gy) HK9.out.2.2.2.2.2.2.1 (.inr HN4.out.1) (.int .i64 q.k) (.int .i64 q.s) (.int .i64 q.z) (.int .u64 q.zc) (.int .u64 q.ct) (.int .i64 q.sm) (.slice A4 q.P.length c4) (.slice B4 q.Q.length d4)) (Bk.set8n (g := gy) HK9.out.2.2.2.2.2.2.2 (.inr HN4.out.2) (.int .i64 q.k) (.int .i64 q.s) (.int .i64 q.z) (.int .u64 q.zc) (.int .u64 q.ct) (.int .i64 q.sm) (.slice A4 q.P.length c4) (.slice B4 q.Q.length d4)))))))))
  have HB10 := Lib.hid (below_set8 (g := gy) HB9.out (by have := HGgy.out; omega) (.int .i64 q.k) (.int .i64 q.s) (.int .i64 q.z) (.int .u64 q.zc) (.int .u64 q.ct) (.int .i64 q.sm) (.slice A4 q.P.length c4) (.slice B4 q.Q.length d4))
  clear HX9 HK9 HB9
  generalize hW : ((((((((w9.setCell ⟨gy, 0, none⟩ (.int .i64 q.k)).setCell ⟨gy, 1, none⟩ (.int .i64 q.s)).setCell ⟨gy, 2, none⟩ (.int .i64 q.z)).setCell ⟨gy, 3, none⟩ (.int .u64 q.zc)).setCell ⟨gy, 4, none⟩ (.int .u64 q.ct)).setCell ⟨gy, 5, none⟩ (.int .i64 q.sm)).setCell ⟨gy, 6, none⟩ (.slice A4 q.P.length c4)).setCell ⟨gy, 7, none⟩ (.slice B4 q.Q.length d4)) = w10
  have hW' : set8 w9 (gy) (.int .i64 q.k) (.int .i64 q.s) (.int .i64 q.z) (.int .u64 q.zc) (.int .u64 q.ct) (.int .i64 q.sm) (.slice A4 q.P.length c4) (.slice B4 q.Q.length d4) = w10 := hW
  rw [hW'] at HX10 HB10 HK10
  clear hW hW'
  refine (awake07 w10).mono ?_
  rintro e w11 ⟨rfl, hb⟩
  have HX11 := Lib.hid (And.intro (HX10.out.1.below hb) (And.intro (HX10.out.2.1.below hb) (And.intro (HX10.out.2.2.1.below hb) (HX10.out.2.2.2.below hb))))
  have HK11 := Lib.hid (And.intro (HK10.out.1.below hb) (And.intro (HK10.out.2.1.below hb) (And.intro (HK10.out.2.2.1.below hb) (And.intro (HK10.out.2.2.2.1.below hb) (And.intro (HK10.out.2.2.2.2.1.below hb) (And.intro (HK10.out.2.2.2.2.2.1.below hb) (And.intro (HK10.out.2.2.2.2.2.2.1.below hb) (HK10.out.2.2.2.2.2.2.2.below hb))))))))
  have HB11 := Lib.hid (HB10.out.trans (hb.mono HB10.out.size))
  clear HB10 HX10 HK10
  clear hb
  obtain ⟨x20, x21, x22, x23, x24, x25, x26, x27⟩ := HX11.out.2.2.1.cells
  have l2 := HX11.out.2.2.1.lt
  obtain ⟨x30, x31, x32, x33, x34, x35, x36, x37⟩ := HX11.out.2.2.2.cells
  have l3 := HX11.out.2.2.2.lt
  have hee : (E2 == E2) = true := by simp
  go_wp2_with fail
  refine (rsame_h q q A3 B3 A4 B4 c3 d3 c4 d4 w11 (HK11.out.2.2.2.2.1) (HK11.out.2.2.2.2.2.1) (HK11.out.2.2.2.2.2.2.1) (HK11.out.2.2.2.2.2.2.2) rfl).mono ?_
  rintro e w12 ⟨rfl, hb⟩
  have HX12 := Lib.hid (And.intro (HX11.out.1.below hb) (And.intro (HX11.out.2.1.below hb) (And.intro (HX11.out.2.2.1.below hb) (HX11.out.2.2.2.below hb))))
  have HK12 := Lib.hid (And.intro (HK11.out.1.below hb) (And.intro (HK11.out.2.1.below hb) (And.intro (HK11.out.2.2.1.below hb) (And.intro (HK11.out.2.2.2.1.below hb) (And.intro (HK11.out.2.2.2.2.1.below hb) (And.intro (HK11.out.2.2.2.2.2.1.below hb) (And.intro (HK11.out.2.2.2.2.2.2.1.below hb) (HK11.out.2.2.2.2.2.2.2.below hb))))))))
  have HB12 := Lib.hid (HB11.out.trans (hb.mono HB11.out.size))
  clear x20 x21 x22 x23 x24 x25 x26 x27 l2 x30 x31 x32 x33 x34 x35 x36 x37 l3 HB11 HX11 HK11
  clear hb hee
  obtain ⟨x00, x01, x02, x03, x04, x05, x06, x07⟩ := HX12.out.1.cells
  have l0 := HX12.out.1.lt
  obtain ⟨x10, x11, x12, x13, x14, x15, x16, x17⟩ := HX12.out.2.1.cells
  have l1 := HX12.out.2.1.lt
  go_wp2_with fail
  obtain ⟨bq, hbq⟩ : ∃ b, (E2 == 21) = b := ⟨_, rfl⟩
  refine (reset_two HT.out A' B' A B c' d' c d w12 (HK12.out.2.2.1) (HK12.out.2.2.2.1) (HK12.out.1) (HK12.out.2.1) bq (by rw [HQE.out.2]; exact hbq)).mono ?_
  rintro e w13 ⟨rfl, hb⟩
  have HX13 := Lib.hid (And.intro (HX12.out.1.below hb) (And.intro (HX12.out.2.1.below hb) (And.intro (HX12.out.2.2.1.below hb) (HX12.out.2.2.2.below hb))))
  have HK13 := Lib.hid (And.intro (HK12.out.1.below hb) (And.intro (HK12.out.2.1.below hb) (And.intro (HK12.out.2.2.1.below hb) (And.intro (HK12.out.2.2.2.1.below hb) (And.intro (HK12.out.2.2.2.2.1.below hb) (And.intro (HK12.out.2.2.2.2.2.1.below hb) (And.intro (HK12.out.2.2.2.2.2.2.1.below hb) (HK12.out.2.2.2.2.2.2.2.below hb))))))))
  have HB13 := Lib.hid (HB12.out.trans (hb.mono HB12.out.size))
  clear x00 x01 x02 x03 x04 x05 x06 x07 l0 x10 x11 x12 x13 x14 x15 x16 x17 l1 HB12 HX12 HK12
  clear hb
  have hbb : (bq == bq) = true := by simp
  go_wp2_with fail
  go_ret
  exact ⟨rfl, HB13.out⟩
set_option maxHeartbeats 3000000 in
set_option maxRecDepth 100000 in
theorem adds_none (a b : HV) (A B A' B' : Option Addr) (c d c' d' : Nat) (w : World) (hP : Bk w A a.P) (hQ : Bk w B a.Q) (hP' : Bk w A' b.P) (hQ' : Bk w B' b.Q) (za : 0 ≤ a.zc ∧ a.zc ≤ 18446744073709551615) (zb : 0 ≤ b.zc ∧ b.zc ≤ 18446744073709551615) (hf : rightF [a, b] = false) :
    Calls Try.prog 3 #[.agg #[.int .i64 a.k, .int .i64 a.s, .int .i64 a.z, .int .u64 a.zc, .int .u64 a.ct, .int .i64 a.sm, .slice A a.P.length c, .slice B a.Q.length d], .agg #[.int .i64 b.k, .int .i64 b.s, .int .i64 b.z, .int .u64 b.zc, .int .u64 b.ct, .int .i64 b.sm, .slice A' b.P.length c', .slice B' b.Q.length d']] w fun e w' => e = .returned (.bool true) ∧ Below w.heap.size w w' := by
  have HF := Lib.hid hf
  clear hf
  have HKw := Lib.hid (And.intro (And.intro hP hQ) (And.intro hP' hQ'))
  have hb0 := (((Below.refl w.heap.size w).alloc (Nat.le_refl _) (.cells #[.int .i64 a.k, .int .i64 a.s, .int .i64 a.z, .int .u64 a.zc, .int .u64 a.ct, .int .i64 a.sm, .slice A a.P.length c, .slice B a.Q.length d] 25)).alloc (by simp) (.cells #[.int .i64 b.k, .int .i64 b.s, .int .i64 b.z, .int .u64 b.zc, .int .u64 b.ct, .int .i64 b.sm, .slice A' b.P.length c', .slice B' b.Q.length d'] 25)).alloc (by simp; omega) (.cells #[.int .i64 a.k, .int .i64 a.s, .int .i64 a.z, .int .u64 a.zc, .int .u64 a.ct, .int .i64 a.sm, .slice A a.P.length c, .slice B a.Q.length d, .int .i64 b.k, .int .i64 b.s, .int .i64 b.z, .int .u64 b.zc, .int .u64 b.ct, .int .i64 b.sm, .slice A' b.P.length c', .slice B' b.Q.length d'] 25)
  have bx0 := ((Box.new w (.int .i64 a.k) (.int .i64 a.s) (.int .i64 a.z) (.int .u64 a.zc) (.int .u64 a.ct) (.int .i64 a.sm) (.slice A a.P.length c) (.slice B a.Q.length d)).alloc (.cells #[.int .i64 b.k, .int .i64 b.s, .int .i64 b.z, .int .u64 b.zc, .int .u64 b.ct, .int .i64 b.sm, .slice A' b.P.length c', .slice B' b.Q.length d'] 25)).alloc (.cells #[.int .i64 a.k, .int .i64 a.s, .int .i64 a.z, .int .u64 a.zc, .int .u64 a.ct, .int .i64 a.sm, .slice A a.P.length c, .slice B a.Q.length d, .int .i64 b.k, .int .i64 b.s, .int .i64 b.z, .int .u64 b.zc, .int .u64 b.ct, .int .i64 b.sm, .slice A' b.P.length c', .slice B' b.Q.length d'] 25)
  have bx1 := (Box.newAt (w.alloc (.cells #[.int .i64 a.k, .int .i64 a.s, .int .i64 a.z, .int .u64 a.zc, .int .u64 a.ct, .int .i64 a.sm, .slice A a.P.length c, .slice B a.Q.length d] 25)) (w.heap.size + 1) (by simp) (.int .i64 b.k) (.int .i64 b.s) (.int .i64 b.z) (.int .u64 b.zc) (.int .u64 b.ct) (.int .i64 b.sm) (.slice A' b.P.length c') (.slice B' b.Q.length d')).alloc (.cells #[.int .i64 a.k, .int .i64 a.s, .int .i64 a.z, .int .u64 a.zc, .int .u64 a.ct, .int .i64 a.sm, .slice A a.P.length c, .slice B a.Q.length d, .int .i64 b.k, .int .i64 b.s, .int .i64 b.z, .int .u64 b.zc, .int .u64 b.ct, .int .i64 b.sm, .slice A' b.P.length c', .slice B' b.Q.length d'] 25)
  have bx2 := Hl.two (w := ((w.alloc (.cells #[.int .i64 a.k, .int .i64 a.s, .int .i64 a.z, .int .u64 a.zc, .int .u64 a.ct, .int .i64 a.sm, .slice A a.P.length c, .slice B a.Q.length d] 25)).alloc (.cells #[.int .i64 b.k, .int .i64 b.s, .int .i64 b.z, .int .u64 b.zc, .int .u64 b.ct, .int .i64 b.sm, .slice A' b.P.length c', .slice B' b.Q.length d'] 25)).alloc (.cells #[.int .i64 a.k, .int .i64 a.s, .int .i64 a.z, .int .u64 a.zc, .int .u64 a.ct, .int .i64 a.sm, .slice A a.P.length c, .slice B a.Q.length d, .int .i64 b.k, .int .i64 b.s, .int .i64 b.z, .int .u64 b.zc, .int .u64 b.ct, .int .i64 b.sm, .slice A' b.P.length c', .slice B' b.Q.length d'] 25)) (g := w.heap.size + 1 + 1) (by have := heap_alloc_new ((w.alloc (.cells #[.int .i64 a.k, .int .i64 a.s, .int .i64 a.z, .int .u64 a.zc, .int .u64 a.ct, .int .i64 a.sm, .slice A a.P.length c, .slice B a.Q.length d] 25)).alloc (.cells #[.int .i64 b.k, .int .i64 b.s, .int .i64 b.z, .int .u64 b.zc, .int .u64 b.ct, .int .i64 b.sm, .slice A' b.P.length c', .slice B' b.Q.length d'] 25)) (.cells #[.int .i64 a.k, .int .i64 a.s, .int .i64 a.z, .int .u64 a.zc, .int .u64 a.ct, .int .i64 a.sm, .slice A a.P.length c, .slice B a.Q.length d, .int .i64 b.k, .int .i64 b.s, .int .i64 b.z, .int .u64 b.zc, .int .u64 b.ct, .int .i64 b.sm, .slice A' b.P.length c', .slice B' b.Q.length d'] 25); simpa using this) (hP.below hb0) (hQ.below hb0) (hP'.below hb0) (hQ'.below hb0) za zb
  have HX0 := Lib.hid (And.intro bx0 bx1)
  have HK0 := Lib.hid (And.intro (hP.below hb0) (And.intro (hQ.below hb0) (And.intro (hP'.below hb0) (hQ'.below hb0))))
  have HB0 := Lib.hid hb0
  have HL := Lib.hid bx2
  clear hP hQ hP' hQ' za zb hb0 bx0 bx1 bx2
  go_enter Try.func3, Try.ntmps3
  go_wp2_with fail
  generalize ((w.alloc (.cells #[.int .i64 a.k, .int .i64 a.s, .int .i64 a.z, .int .u64 a.zc, .int .u64 a.ct, .int .i64 a.sm, .slice A a.P.length c, .slice B a.Q.length d] 25)).alloc (.cells #[.int .i64 b.k, .int .i64 b.s, .int .i64 b.z, .int .u64 b.zc, .int .u64 b.ct, .int .i64 b.sm, .slice A' b.P.length c', .slice B' b.Q.length d'] 25)).alloc (.cells #[.int .i64 a.k, .int .i64 a.s, .int .i64 a.z, .int .u64 a.zc, .int .u64 a.ct, .int .i64 a.sm, .slice A a.P.length c, .slice B a.Q.length d, .int .i64 b.k, .int .i64 b.s, .int .i64 b.z, .int .u64 b.zc, .int .u64 b.ct, .int .i64 b.sm, .slice A' b.P.length c', .slice B' b.Q.length d'] 25) = w0 at *
  refine (lright_any (some ⟨w.heap.size + 1 + 1, 0, none⟩) 2 2 [a, b] w0 rfl HL.out).mono ?_
  rintro e w1 ⟨rfl, hb⟩
  rw [HF.out]
  have HX1 := Lib.hid (And.intro (HX0.out.1.below hb) (HX0.out.2.below hb))
  have HK1 := Lib.hid (And.intro (HK0.out.1.below hb) (And.intro (HK0.out.2.1.below hb) (And.intro (HK0.out.2.2.1.below hb) (HK0.out.2.2.2.below hb))))
  have HB1 := Lib.hid (HB0.out.trans (hb.mono HB0.out.size))
  clear HB0 HX0 HK0
  clear hb HL
  obtain ⟨x00, x01, x02, x03, x04, x05, x06, x07⟩ := HX1.out.1.cells
  have l0 := HX1.out.1.lt
  obtain ⟨x10, x11, x12, x13, x14, x15, x16, x17⟩ := HX1.out.2.cells
  have l1 := HX1.out.2.lt
  go_wp2_with fail
  refine (awake07 w1).mono ?_
  rintro e w2 ⟨rfl, hb⟩
  have HX2 := Lib.hid (And.intro (HX1.out.1.below hb) (HX1.out.2.below hb))
  have HK2 := Lib.hid (And.intro (HK1.out.1.below hb) (And.intro (HK1.out.2.1.below hb) (And.intro (HK1.out.2.2.1.below hb) (HK1.out.2.2.2.below hb))))
  have HB2 := Lib.hid (HB1.out.trans (hb.mono HB1.out.size))
  clear x00 x01 x02 x03 x04 x05 x06 x07 l0 x10 x11 x12 x13 x14 x15 x16 x17 l1 HB1 HX1 HK1
  clear hb
  go_wp2_with fail
  go_ret
  exact ⟨rfl, HB2.out⟩
theorem adds_walk (a b : HV) (A B A' B' : Option Addr) (c d c' d' : Nat) (w : World) (hP : Bk w A a.P) (hQ : Bk w B a.Q) (hP' : Bk w A' b.P) (hQ' : Bk w B' b.Q) (za : 0 ≤ a.zc ∧ a.zc ≤ 18446744073709551615) (zb : 0 ≤ b.zc ∧ b.zc ≤ 18446744073709551615) (sa : inI64 a.sm) (sb : inI64 b.sm) :
    Calls Try.prog 3 #[.agg #[.int .i64 a.k, .int .i64 a.s, .int .i64 a.z, .int .u64 a.zc, .int .u64 a.ct, .int .i64 a.sm, .slice A a.P.length c, .slice B a.Q.length d], .agg #[.int .i64 b.k, .int .i64 b.s, .int .i64 b.z, .int .u64 b.zc, .int .u64 b.ct, .int .i64 b.sm, .slice A' b.P.length c', .slice B' b.Q.length d']] w fun e w' => e = .returned (.bool true) ∧ Below w.heap.size w w' := by
  rcases hf : rightF [a, b] with _ | _
  · exact adds_none a b A B A' B' c d c' d'  w hP hQ hP' hQ' za zb hf
  · have h := List.all_eq_true.1 hf
    have ha := h a (by simp)
    have hb := h b (by simp)
    exact adds_main a b A B A' B' c d c' d'  w hP hQ hP' hQ' (fewB_ok ha za.1 sa hP.2.1 hQ.2.1) (fewB_ok hb zb.1 sb hP'.2.1 hQ'.2.1) ⟨ha, hb⟩
end Go.Proofs.Ytbibhjcmdehdbaa
