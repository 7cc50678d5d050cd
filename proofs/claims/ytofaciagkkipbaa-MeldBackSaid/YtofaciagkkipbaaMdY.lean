/- The law MeldBack, for two histograms that may be. -/
import Derived.Test.YtofaciagkkipbaaMdX
import Derived.Test.YtofaciagkkipbaaMdU
namespace Go.Proofs.Ytofaciagkkipbaa
open Go.RowKit Go.Sort Go.Maps
set_option linter.unusedVariables false

theorem few_P {h : HV} (hf : fewB h = true) : h.P.length ≤ 100 := by unfold fewB at hf; exact (of_decide_eq_true hf).1
theorem few_Q {h : HV} (hf : fewB h = true) : h.Q.length ≤ 100 := by unfold fewB at hf; exact (of_decide_eq_true hf).2.1
set_option maxHeartbeats 3000000 in
set_option maxRecDepth 100000 in
theorem back_main (a b : HV) (A B A' B' : Option Addr) (c d c' d' : Nat) (w : World) (hP : Bk w A a.P) (hQ : Bk w B a.Q) (hP' : Bk w A' b.P) (hQ' : Bk w B' b.Q) (oa : Ok a) (ob : Ok b) (hf : fewB a = true ∧ fewB b = true) :
    Calls Try.prog 7 #[.agg #[.int .i64 a.k, .int .i64 a.s, .int .i64 a.z, .int .u64 a.zc, .int .u64 a.ct, .int .i64 a.sm, .slice A a.P.length c, .slice B a.Q.length d], .agg #[.int .i64 b.k, .int .i64 b.s, .int .i64 b.z, .int .u64 b.zc, .int .u64 b.ct, .int .i64 b.sm, .slice A' b.P.length c', .slice B' b.Q.length d']] w fun e w' => e = .returned (.bool true) ∧ Below w.heap.size w w' := by
  have HF := Lib.hid hf
  have HO := Lib.hid (And.intro oa ob)
  have za : 0 ≤ a.zc ∧ a.zc ≤ 18446744073709551615 := ⟨oa.zc, oa.toGood.z1⟩
  have zb : 0 ≤ b.zc ∧ b.zc ≤ 18446744073709551615 := ⟨ob.zc, ob.toGood.z1⟩
  clear hf oa ob
  have hb0 := (((Below.refl w.heap.size w).alloc (Nat.le_refl _) (.cells #[.int .i64 a.k, .int .i64 a.s, .int .i64 a.z, .int .u64 a.zc, .int .u64 a.ct, .int .i64 a.sm, .slice A a.P.length c, .slice B a.Q.length d] 25)).alloc (by simp) (.cells #[.int .i64 b.k, .int .i64 b.s, .int .i64 b.z, .int .u64 b.zc, .int .u64 b.ct, .int .i64 b.sm, .slice A' b.P.length c', .slice B' b.Q.length d'] 25)).alloc (by simp; omega) (.cells #[.int .i64 a.k, .int .i64 a.s, .int .i64 a.z, .int .u64 a.zc, .int .u64 a.ct, .int .i64 a.sm, .slice A a.P.length c, .slice B a.Q.length d, .int .i64 b.k, .int .i64 b.s, .int .i64 b.z, .int .u64 b.zc, .int .u64 b.ct, .int .i64 b.sm, .slice A' b.P.length c', .slice B' b.Q.length d'] 25)
  have bx0 := ((Box.new w (.int .i64 a.k) (.int .i64 a.s) (.int .i64 a.z) (.int .u64 a.zc) (.int .u64 a.ct) (.int .i64 a.sm) (.slice A a.P.length c) (.slice B a.Q.length d)).alloc (.cells #[.int .i64 b.k, .int .i64 b.s, .int .i64 b.z, .int .u64 b.zc, .int .u64 b.ct, .int .i64 b.sm, .slice A' b.P.length c', .slice B' b.Q.length d'] 25)).alloc (.cells #[.int .i64 a.k, .int .i64 a.s, .int .i64 a.z, .int .u64 a.zc, .int .u64 a.ct, .int .i64 a.sm, .slice A a.P.length c, .slice B a.Q.length d, .int .i64 b.k, .int .i64 b.s, .int .i64 b.z, .int .u64 b.zc, .int .u64 b.ct, .int .i64 b.sm, .slice A' b.P.length c', .slice B' b.Q.length d'] 25)
  have bx1 := (Box.newAt (w.alloc (.cells #[.int .i64 a.k, .int .i64 a.s, .int .i64 a.z, .int .u64 a.zc, .int .u64 a.ct, .int .i64 a.sm, .slice A a.P.length c, .slice B a.Q.length d] 25)) (w.heap.size + 1) (by simp) (.int .i64 b.k) (.int .i64 b.s) (.int .i64 b.z) (.int .u64 b.zc) (.int .u64 b.ct) (.int .i64 b.sm) (.slice A' b.P.length c') (.slice B' b.Q.length d')).alloc (.cells #[.int .i64 a.k, .int .i64 a.s, .int .i64 a.z, .int .u64 a.zc, .int .u64 a.ct, .int .i64 a.sm, .slice A a.P.length c, .slice B a.Q.length d, .int .i64 b.k, .int .i64 b.s, .int .i64 b.z, .int .u64 b.zc, .int .u64 b.ct, .int .i64 b.sm, .slice A' b.P.length c', .slice B' b.Q.length d'] 25)
  have bx2 := Hl.two (w := ((w.alloc (.cells #[.int .i64 a.k, .int .i64 a.s, .int .i64 a.z, .int .u64 a.zc, .int .u64 a.ct, .int .i64 a.sm, .slice A a.P.length c, .slice B a.Q.length d] 25)).alloc (.cells #[.int .i64 b.k, .int .i64 b.s, .int .i64 b.z, .int .u64 b.zc, .int .u64 b.ct, .int .i64 b.sm, .slice A' b.P.length c', .slice B' b.Q.length d'] 25)).alloc (.cells #[.int .i64 a.k, .int .i64 a.s, .int .i64 a.z, .int .u64 a.zc, .int .u64 a.ct, .int .i64 a.sm, .slice A a.P.length c, .slice B a.Q.length d, .int .i64 b.k, .int .i64 b.s, .int .i64 b.z, .int .u64 b.zc, .int .u64 b.ct, .int .i64 b.sm, .slice A' b.P.length c', .slice B' b.Q.length d'] 25)) (g := w.heap.size + 1 + 1) (by have := heap_alloc_new ((w.alloc (.cells #[.int .i64 a.k, .int .i64 a.s, .int .i64 a.z, .int .u64 a.zc, .int .u64 a.ct, .int .i64 a.sm, .slice A a.P.length c, .slice B a.Q.length d] 25)).alloc (.cells #[.int .i64 b.k, .int .i64 b.s, .int .i64 b.z, .int .u64 b.zc, .int .u64 b.ct, .int .i64 b.sm, .slice A' b.P.length c', .slice B' b.Q.length d'] 25)) (.cells #[.int .i64 a.k, .int .i64 a.s, .int .i64 a.z, .int .u64 a.zc, .int .u64 a.ct, .int .i64 a.sm, .slice A a.P.length c, .slice B a.Q.length d, .int .i64 b.k, .int .i64 b.s, .int .i64 b.z, .int .u64 b.zc, .int .u64 b.ct, .int .i64 b.sm, .slice A' b.P.length c', .slice B' b.Q.length d'] 25); simpa using this) (hP.below hb0) (hQ.below hb0) (hP'.below hb0) (hQ'.below hb0) za zb
  have HX0 := Lib.hid (And.intro bx0 bx1)
  have HK0 := Lib.hid (And.intro (hP.below hb0) (And.intro (hQ.below hb0) (And.intro (hP'.below hb0) (hQ'.below hb0))))
  have HB0 := Lib.hid hb0
  have HL := Lib.hid bx2
  clear hP hQ hP' hQ' za zb hb0 bx0 bx1 bx2
  go_enter Try.func7, Try.ntmps7
  go_wp2_with fail
  generalize ((w.alloc (.cells #[.int .i64 a.k, .int .i64 a.s, .int .i64 a.z, .int .u64 a.zc, .int .u64 a.ct, .int .i64 a.sm, .slice A a.P.length c, .slice B a.Q.length d] 25)).alloc (.cells #[.int .i64 b.k, .int .i64 b.s, .int .i64 b.z, .int .u64 b.zc, .int .u64 b.ct, .int .i64 b.sm, .slice A' b.P.length c', .slice B' b.Q.length d'] 25)).alloc (.cells #[.int .i64 a.k, .int .i64 a.s, .int .i64 a.z, .int .u64 a.zc, .int .u64 a.ct, .int .i64 a.sm, .slice A a.P.length c, .slice B a.Q.length d, .int .i64 b.k, .int .i64 b.s, .int .i64 b.z, .int .u64 b.zc, .int .u64 b.ct, .int .i64 b.sm, .slice A' b.P.length c', .slice B' b.Q.length d'] 25) = w0 at *
  refine (lright_any (some ⟨w.heap.size + 1 + 1, 0, none⟩) 2 2 [a, b] w0 rfl HL.out).mono ?_
  rintro e w1 ⟨rfl, hb⟩
  have hRR : rightF [a, b] = true := by unfold rightF; rw [List.all_cons, List.all_cons, HF.out.1, HF.out.2]; rfl
  rw [hRR]
  clear hRR HL
  have HX1 := Lib.hid (And.intro (HX0.out.1.below hb) (HX0.out.2.below hb))
  have HK1 := Lib.hid (And.intro (HK0.out.1.below hb) (And.intro (HK0.out.2.1.below hb) (And.intro (HK0.out.2.2.1.below hb) (HK0.out.2.2.2.below hb))))
  have HB1 := Lib.hid (HB0.out.trans (hb.mono HB0.out.size))
  clear HB0 HX0 HK0
  clear hb
  obtain ⟨x00, x01, x02, x03, x04, x05, x06, x07⟩ := HX1.out.1.cells
  have l0 := HX1.out.1.lt
  obtain ⟨x10, x11, x12, x13, x14, x15, x16, x17⟩ := HX1.out.2.cells
  have l1 := HX1.out.2.lt
  go_wp2_with fail
  refine (add_h a b A B A' B' c d c' d' w1 (HK1.out.1) (HK1.out.2.1) (HK1.out.2.2.1) (HK1.out.2.2.2) HO.out.1 HO.out.2).mono ?_
  rintro e w2 ⟨x, y, htwo, A1, B1, c1, d1, rfl, hA, hB, hb, _, _⟩
  have HT := Lib.hid htwo
  clear htwo
  obtain ⟨r, hr⟩ : ∃ r, mAddO x y = r := ⟨_, rfl⟩
  obtain ⟨E, hE⟩ : ∃ E, mAddE x y = E := ⟨_, rfl⟩
  rw [hr] at hA hB
  simp only [hvA, hr, hE]
  have HRE := Lib.hid (And.intro hr hE)
  clear hr hE
  have HX2 := Lib.hid (And.intro (HX1.out.1.below hb) (HX1.out.2.below hb))
  have HK2 := Lib.hid (And.intro (HK1.out.1.below hb) (And.intro (HK1.out.2.1.below hb) (And.intro (HK1.out.2.2.1.below hb) (And.intro (HK1.out.2.2.2.below hb) (And.intro (hA) (hB))))))
  have HB2 := Lib.hid (HB1.out.trans (hb.mono HB1.out.size))
  clear x00 x01 x02 x03 x04 x05 x06 x07 l0 x10 x11 x12 x13 x14 x15 x16 x17 l1 HB1 HX1 HK1
  clear hA hB hb
  obtain ⟨x00, x01, x02, x03, x04, x05, x06, x07⟩ := HX2.out.1.cells
  have l0 := HX2.out.1.lt
  obtain ⟨x10, x11, x12, x13, x14, x15, x16, x17⟩ := HX2.out.2.cells
  have l1 := HX2.out.2.lt
  go_wp2_with fail
  have hw : Below w2.heap.size w2 (w2.alloc (.cells #[.int .i64 r.k, .int .i64 r.s, .int .i64 r.z, .int .u64 r.zc, .int .u64 r.ct, .int .i64 r.sm, .slice A1 r.P.length c1, .slice B1 r.Q.length d1] 25)) := (Below.refl _ _).alloc (Nat.le_refl _) _
  have HX3 := Lib.hid (And.intro (HX2.out.1.below hw) (And.intro (HX2.out.2.below hw) (Box.new w2 (.int .i64 r.k) (.int .i64 r.s) (.int .i64 r.z) (.int .u64 r.zc) (.int .u64 r.ct) (.int .i64 r.sm) (.slice A1 r.P.length c1) (.slice B1 r.Q.length d1))))
  have HK3 := Lib.hid (And.intro (HK2.out.1.below hw) (And.intro (HK2.out.2.1.below hw) (And.intro (HK2.out.2.2.1.below hw) (And.intro (HK2.out.2.2.2.1.below hw) (And.intro (HK2.out.2.2.2.2.1.below hw) (HK2.out.2.2.2.2.2.below hw))))))
  have HB3 := Lib.hid (HB2.out.trans (hw.mono HB2.out.size))
  clear x00 x01 x02 x03 x04 x05 x06 x07 l0 x10 x11 x12 x13 x14 x15 x16 x17 l1 HB2 hw HX2 HK2
  obtain ⟨gx, hgx⟩ : ∃ g, w2.heap.size = g := ⟨_, rfl⟩
  rw [hgx] at HX3 ⊢
  clear hgx
  generalize w2.alloc (.cells #[.int .i64 r.k, .int .i64 r.s, .int .i64 r.z, .int .u64 r.zc, .int .u64 r.ct, .int .i64 r.sm, .slice A1 r.P.length c1, .slice B1 r.Q.length d1] 25) = w3 at *
  refine (add_two' HT.out.symm A' B' A B c' d' c d w3 (HK3.out.2.2.1) (HK3.out.2.2.2.1) (HK3.out.1) (HK3.out.2.1)).mono ?_
  rintro e w4 ⟨A2, B2, c2, d2, rfl, hA, hB, hb, _, _⟩
  have HSW := Lib.hid (add_sw HT.out.is.ox HT.out.is.oy HT.out.is.s HT.out.is.z)
  rw [← HSW.out.2.2, HRE.out.1] at hA hB
  simp only [hvA, ← HSW.out.2.1, ← HSW.out.2.2, HRE.out.1, HRE.out.2]
  have HX4 := Lib.hid (And.intro (HX3.out.1.below hb) (And.intro (HX3.out.2.1.below hb) (HX3.out.2.2.below hb)))
  have HK4 := Lib.hid (And.intro (HK3.out.1.below hb) (And.intro (HK3.out.2.1.below hb) (And.intro (HK3.out.2.2.1.below hb) (And.intro (HK3.out.2.2.2.1.below hb) (And.intro (HK3.out.2.2.2.2.1.below hb) (And.intro (HK3.out.2.2.2.2.2.below hb) (And.intro (hA) (hB))))))))
  have HB4 := Lib.hid (HB3.out.trans (hb.mono HB3.out.size))
  clear HB3 HX3 HK3
  clear hA hB hb
  obtain ⟨x00, x01, x02, x03, x04, x05, x06, x07⟩ := HX4.out.1.cells
  have l0 := HX4.out.1.lt
  obtain ⟨x10, x11, x12, x13, x14, x15, x16, x17⟩ := HX4.out.2.1.cells
  have l1 := HX4.out.2.1.lt
  obtain ⟨x20, x21, x22, x23, x24, x25, x26, x27⟩ := HX4.out.2.2.cells
  have l2 := HX4.out.2.2.lt
  have hee : (E != E) = false := by simp
  go_wp2_with fail
  have hw : Below w4.heap.size w4 (w4.alloc (.cells #[.int .i64 r.k, .int .i64 r.s, .int .i64 r.z, .int .u64 r.zc, .int .u64 r.ct, .int .i64 r.sm, .slice A2 r.P.length c2, .slice B2 r.Q.length d2] 25)) := (Below.refl _ _).alloc (Nat.le_refl _) _
  have HX5 := Lib.hid (And.intro (HX4.out.1.below hw) (And.intro (HX4.out.2.1.below hw) (And.intro (HX4.out.2.2.below hw) (Box.new w4 (.int .i64 r.k) (.int .i64 r.s) (.int .i64 r.z) (.int .u64 r.zc) (.int .u64 r.ct) (.int .i64 r.sm) (.slice A2 r.P.length c2) (.slice B2 r.Q.length d2)))))
  have HK5 := Lib.hid (And.intro (HK4.out.1.below hw) (And.intro (HK4.out.2.1.below hw) (And.intro (HK4.out.2.2.1.below hw) (And.intro (HK4.out.2.2.2.1.below hw) (And.intro (HK4.out.2.2.2.2.1.below hw) (And.intro (HK4.out.2.2.2.2.2.1.below hw) (And.intro (HK4.out.2.2.2.2.2.2.1.below hw) (HK4.out.2.2.2.2.2.2.2.below hw))))))))
  have HB5 := Lib.hid (HB4.out.trans (hw.mono HB4.out.size))
  clear x00 x01 x02 x03 x04 x05 x06 x07 l0 x10 x11 x12 x13 x14 x15 x16 x17 l1 x20 x21 x22 x23 x24 x25 x26 x27 l2 HB4 hw HX4 HK4
  obtain ⟨gy, hgy⟩ : ∃ g, w4.heap.size = g := ⟨_, rfl⟩
  rw [hgy] at HX5 ⊢
  clear hgy
  generalize w4.alloc (.cells #[.int .i64 r.k, .int .i64 r.s, .int .i64 r.z, .int .u64 r.zc, .int .u64 r.ct, .int .i64 r.sm, .slice A2 r.P.length c2, .slice B2 r.Q.length d2] 25) = w5 at *
  refine (same_h r r A1 B1 A2 B2 c1 d1 c2 d2 w5 (HK5.out.2.2.2.2.1) (HK5.out.2.2.2.2.2.1) (HK5.out.2.2.2.2.2.2.1) (HK5.out.2.2.2.2.2.2.2) rfl).mono ?_
  rintro e w6 ⟨rfl, hb⟩
  have HX6 := Lib.hid (And.intro (HX5.out.1.below hb) (And.intro (HX5.out.2.1.below hb) (And.intro (HX5.out.2.2.1.below hb) (HX5.out.2.2.2.below hb))))
  have HK6 := Lib.hid (And.intro (HK5.out.1.below hb) (And.intro (HK5.out.2.1.below hb) (And.intro (HK5.out.2.2.1.below hb) (And.intro (HK5.out.2.2.2.1.below hb) (And.intro (HK5.out.2.2.2.2.1.below hb) (And.intro (HK5.out.2.2.2.2.2.1.below hb) (And.intro (HK5.out.2.2.2.2.2.2.1.below hb) (HK5.out.2.2.2.2.2.2.2.below hb))))))))
  have HB6 := Lib.hid (HB5.out.trans (hb.mono HB5.out.size))
  clear HB5 HX5 HK5
  clear hb hee
  obtain ⟨x00, x01, x02, x03, x04, x05, x06, x07⟩ := HX6.out.1.cells
  have l0 := HX6.out.1.lt
  obtain ⟨x10, x11, x12, x13, x14, x15, x16, x17⟩ := HX6.out.2.1.cells
  have l1 := HX6.out.2.1.lt
  obtain ⟨x20, x21, x22, x23, x24, x25, x26, x27⟩ := HX6.out.2.2.1.cells
  have l2 := HX6.out.2.2.1.lt
  obtain ⟨x30, x31, x32, x33, x34, x35, x36, x37⟩ := HX6.out.2.2.2.cells
  have l3 := HX6.out.2.2.2.lt
  have HCASE := Lib.hid (add_E HT.out.is.ox HT.out.is.oy HT.out.is.s HT.out.is.z (Nat.le_trans (tidy_length _) (by have h1 := HT.out.is.xP; have h2 := HT.out.is.yP; have h3 := few_P HF.out.1; have h4 := few_P HF.out.2; rw [List.length_append]; omega)) (Nat.le_trans (tidy_length _) (by have h1 := HT.out.is.xQ; have h2 := HT.out.is.yQ; have h3 := few_Q HF.out.1; have h4 := few_Q HF.out.2; rw [List.length_append]; omega)))
  by_cases hok : x.ct + y.ct ≤ 18446744073709551615 ∧ inI64 (x.sm + y.sm)
  · skip
    obtain rfl : E = 0 := by have h := HCASE.out; rw [if_pos hok, HRE.out.2] at h; exact h
    have HOK := Lib.hid hok
    clear hok HCASE
    have HRR := Lib.hid (show r = mAddR x y from by rw [← HRE.out.1]; unfold mAddO; rw [HRE.out.2, if_pos rfl]; rfl)
    have HAO := Lib.hid (show Ok r from by rw [HRR.out]; exact add_ok HT.out.is.ox HT.out.is.oy HT.out.is.s HT.out.is.z (Nat.le_trans (tidy_length _) (by have h1 := HT.out.is.xP; have h2 := HT.out.is.yP; have h3 := few_P HF.out.1; have h4 := few_P HF.out.2; rw [List.length_append]; omega)) (Nat.le_trans (tidy_length _) (by have h1 := HT.out.is.xQ; have h2 := HT.out.is.yQ; have h3 := few_Q HF.out.1; have h4 := few_Q HF.out.2; rw [List.length_append]; omega)) HOK.out.1 HOK.out.2)
    go_wp2_with fail
    refine (alike_two' HT.out A B A' B' c d c' d' w6 (HK6.out.1) (HK6.out.2.1) (HK6.out.2.2.1) (HK6.out.2.2.2.1)).mono ?_
    rintro e w7 ⟨A3, B3, A4, B4, c3, d3, c4, d4, rfl, ⟨hA3, hB3, hA4, hB4⟩, hb, _⟩
    simp only [hvA]
    have HX7 := Lib.hid (And.intro (HX6.out.1.below hb) (And.intro (HX6.out.2.1.below hb) (And.intro (HX6.out.2.2.1.below hb) (HX6.out.2.2.2.below hb))))
    have HK7 := Lib.hid (And.intro (HK6.out.1.below hb) (And.intro (HK6.out.2.1.below hb) (And.intro (HK6.out.2.2.1.below hb) (And.intro (HK6.out.2.2.2.1.below hb) (And.intro (HK6.out.2.2.2.2.1.below hb) (And.intro (HK6.out.2.2.2.2.2.1.below hb) (And.intro (HK6.out.2.2.2.2.2.2.1.below hb) (And.intro (HK6.out.2.2.2.2.2.2.2.below hb) (And.intro (hA3) (And.intro (hB3) (And.intro (hA4) (hB4))))))))))))
    have HB7 := Lib.hid (HB6.out.trans (hb.mono HB6.out.size))
    clear x00 x01 x02 x03 x04 x05 x06 x07 l0 x10 x11 x12 x13 x14 x15 x16 x17 l1 x20 x21 x22 x23 x24 x25 x26 x27 l2 x30 x31 x32 x33 x34 x35 x36 x37 l3 HB6 HX6 HK6
    clear hA3 hB3 hA4 hB4 hb
    obtain ⟨x00, x01, x02, x03, x04, x05, x06, x07⟩ := HX7.out.1.cells
    have l0 := HX7.out.1.lt
    obtain ⟨x10, x11, x12, x13, x14, x15, x16, x17⟩ := HX7.out.2.1.cells
    have l1 := HX7.out.2.1.lt
    obtain ⟨x20, x21, x22, x23, x24, x25, x26, x27⟩ := HX7.out.2.2.1.cells
    have l2 := HX7.out.2.2.1.lt
    obtain ⟨x30, x31, x32, x33, x34, x35, x36, x37⟩ := HX7.out.2.2.2.cells
    have l3 := HX7.out.2.2.2.lt
    go_wp2_with fail
    have hw : Below w7.heap.size w7 ((w7.alloc (.cells #[.int .i64 x.k, .int .i64 x.s, .int .i64 x.z, .int .u64 x.zc, .int .u64 x.ct, .int .i64 x.sm, .slice A3 x.P.length c3, .slice B3 x.Q.length d3] 25)).alloc (.cells #[.int .i64 y.k, .int .i64 y.s, .int .i64 y.z, .int .u64 y.zc, .int .u64 y.ct, .int .i64 y.sm, .slice A4 y.P.length c4, .slice B4 y.Q.length d4] 25)) := ((Below.refl _ _).alloc (Nat.le_refl _) _).alloc (by simp) _
    have HX8 := Lib.hid (And.intro (HX7.out.1.below hw) (And.intro (HX7.out.2.1.below hw) (And.intro (HX7.out.2.2.1.below hw) (And.intro (HX7.out.2.2.2.below hw) (And.intro ((Box.new w7 (.int .i64 x.k) (.int .i64 x.s) (.int .i64 x.z) (.int .u64 x.zc) (.int .u64 x.ct) (.int .i64 x.sm) (.slice A3 x.P.length c3) (.slice B3 x.Q.length d3)).alloc (.cells #[.int .i64 y.k, .int .i64 y.s, .int .i64 y.z, .int .u64 y.zc, .int .u64 y.ct, .int .i64 y.sm, .slice A4 y.P.length c4, .slice B4 y.Q.length d4] 25)) (Box.newAt (w7.alloc (.cells #[.int .i64 x.k, .int .i64 x.s, .int .i64 x.z, .int .u64 x.zc, .int .u64 x.ct, .int .i64 x.sm, .slice A3 x.P.length c3, .slice B3 x.Q.length d3] 25)) (w7.heap.size + 1) (by simp) (.int .i64 y.k) (.int .i64 y.s) (.int .i64 y.z) (.int .u64 y.zc) (.int .u64 y.ct) (.int .i64 y.sm) (.slice A4 y.P.length c4) (.slice B4 y.Q.length d4)))))))
    have HK8 := Lib.hid (And.intro (HK7.out.1.below hw) (And.intro (HK7.out.2.1.below hw) (And.intro (HK7.out.2.2.1.below hw) (And.intro (HK7.out.2.2.2.1.below hw) (And.intro (HK7.out.2.2.2.2.1.below hw) (And.intro (HK7.out.2.2.2.2.2.1.below hw) (And.intro (HK7.out.2.2.2.2.2.2.1.below hw) (And.intro (HK7.out.2.2.2.2.2.2.2.1.below hw) (And.intro (HK7.out.2.2.2.2.2.2.2.2.1.below hw) (And.intro (HK7.out.2.2.2.2.2.2.2.2.2.1.below hw) (And.intro (HK7.out.2.2.2.2.2.2.2.2.2.2.1.below hw) (HK7.out.2.2.2.2.2.2.2.2.2.2.2.below hw))))))))))))
    have HB8 := Lib.hid (HB7.out.trans (hw.mono HB7.out.size))
    clear x00 x01 x02 x03 x04 x05 x06 x07 l0 x10 x11 x12 x13 x14 x15 x16 x17 l1 x20 x21 x22 x23 x24 x25 x26 x27 l2 x30 x31 x32 x33 x34 x35 x36 x37 l3 HB7 hw HX7 HK7
    obtain ⟨gp, hgp⟩ : ∃ g, w7.heap.size = g := ⟨_, rfl⟩
    rw [hgp] at HX8 ⊢
    clear hgp
    generalize (w7.alloc (.cells #[.int .i64 x.k, .int .i64 x.s, .int .i64 x.z, .int .u64 x.zc, .int .u64 x.ct, .int .i64 x.sm, .slice A3 x.P.length c3, .slice B3 x.Q.length d3] 25)).alloc (.cells #[.int .i64 y.k, .int .i64 y.s, .int .i64 y.z, .int .u64 y.zc, .int .u64 y.ct, .int .i64 y.sm, .slice A4 y.P.length c4, .slice B4 y.Q.length d4] 25) = w8 at *
    have HTB := Lib.hid (HT.out.back HAO.out (by rw [HRR.out]; rfl) (by rw [HRR.out]; rfl))
    have HBS := Lib.hid (back_sub HT.out.is.ox HT.out.is.oy HT.out.is.s HT.out.is.z)
    have HBT := Lib.hid (back_sub HT.out.is.oy HT.out.is.ox HT.out.is.s.symm HT.out.is.z.symm)
    obtain ⟨K, hK⟩ : ∃ K, max a.k b.k = K := ⟨_, rfl⟩
    have HKV := Lib.hid (show mSubO r y = ⟨K, x.s, x.z, x.zc, x.ct, x.sm, x.P, x.Q⟩ from by rw [HRR.out, HBS.out.2.2, (addV_k HT.out.is.ox HT.out.is.oy).2.2, HT.out.is.xk, HT.out.is.yk, hK])
    have HKE := Lib.hid (show mSubE r y = 0 from by rw [HRR.out]; exact HBS.out.2.1)
    have HKR := Lib.hid (show (mSubE r x == 21) = false from by have h : mSubE r x = 0 := (by rw [HRR.out, HSW.out.1]; exact HBT.out.2.1); rw [h]; rfl)
    have HKK := Lib.hid hK
    refine (sub_two' HTB.out.1 A1 B1 A' B' c1 d1 c' d' w8 (HK8.out.2.2.2.2.1) (HK8.out.2.2.2.2.2.1) (HK8.out.2.2.1) (HK8.out.2.2.2.1)).mono ?_
    intro e w9 hR
    obtain ⟨A5, B5, c5, d5, rfl, hA, hB, hb, _, _⟩ := hR.as HKV.out HKE.out
    simp only [hvA]
    clear hR
    have HX9 := Lib.hid (And.intro (HX8.out.1.below hb) (And.intro (HX8.out.2.1.below hb) (And.intro (HX8.out.2.2.1.below hb) (And.intro (HX8.out.2.2.2.1.below hb) (And.intro (HX8.out.2.2.2.2.1.below hb) (HX8.out.2.2.2.2.2.below hb))))))
    have HK9 := Lib.hid (And.intro (HK8.out.1.below hb) (And.intro (HK8.out.2.1.below hb) (And.intro (HK8.out.2.2.1.below hb) (And.intro (HK8.out.2.2.2.1.below hb) (And.intro (HK8.out.2.2.2.2.1.below hb) (And.intro (HK8.out.2.2.2.2.2.1.below hb) (And.intro (HK8.out.2.2.2.2.2.2.1.below hb) (And.intro (HK8.out.2.2.2.2.2.2.2.1.below hb) (And.intro (HK8.out.2.2.2.2.2.2.2.2.1.below hb) (And.intro (HK8.out.2.2.2.2.2.2.2.2.2.1.below hb) (And.intro (HK8.out.2.2.2.2.2.2.2.2.2.2.1.below hb) (And.intro (HK8.out.2.2.2.2.2.2.2.2.2.2.2.below hb) (And.intro (hA) (hB))))))))))))))
    have HB9 := Lib.hid (HB8.out.trans (hb.mono HB8.out.size))
    clear HB8 HX8 HK8
    clear hA hB hb
    obtain ⟨x00, x01, x02, x03, x04, x05, x06, x07⟩ := HX9.out.1.cells
    have l0 := HX9.out.1.lt
    obtain ⟨x10, x11, x12, x13, x14, x15, x16, x17⟩ := HX9.out.2.1.cells
    have l1 := HX9.out.2.1.lt
    obtain ⟨x20, x21, x22, x23, x24, x25, x26, x27⟩ := HX9.out.2.2.1.cells
    have l2 := HX9.out.2.2.1.lt
    obtain ⟨x30, x31, x32, x33, x34, x35, x36, x37⟩ := HX9.out.2.2.2.1.cells
    have l3 := HX9.out.2.2.2.1.lt
    obtain ⟨x40, x41, x42, x43, x44, x45, x46, x47⟩ := HX9.out.2.2.2.2.1.cells
    have l4 := HX9.out.2.2.2.2.1.lt
    obtain ⟨x50, x51, x52, x53, x54, x55, x56, x57⟩ := HX9.out.2.2.2.2.2.cells
    have l5 := HX9.out.2.2.2.2.2.lt
    go_wp2_with fail
    have hw : Below w9.heap.size w9 (w9.alloc (.cells #[.int .i64 K, .int .i64 x.s, .int .i64 x.z, .int .u64 x.zc, .int .u64 x.ct, .int .i64 x.sm, .slice A5 x.P.length c5, .slice B5 x.Q.length d5] 25)) := (Below.refl _ _).alloc (Nat.le_refl _) _
    have HX10 := Lib.hid (And.intro (HX9.out.1.below hw) (And.intro (HX9.out.2.1.below hw) (And.intro (HX9.out.2.2.1.below hw) (And.intro (HX9.out.2.2.2.1.below hw) (And.intro (HX9.out.2.2.2.2.1.below hw) (And.intro (HX9.out.2.2.2.2.2.below hw) (Box.new w9 (.int .i64 K) (.int .i64 x.s) (.int .i64 x.z) (.int .u64 x.zc) (.int .u64 x.ct) (.int .i64 x.sm) (.slice A5 x.P.length c5) (.slice B5 x.Q.length d5))))))))
    have HK10 := Lib.hid (And.intro (HK9.out.1.below hw) (And.intro (HK9.out.2.1.below hw) (And.intro (HK9.out.2.2.1.below hw) (And.intro (HK9.out.2.2.2.1.below hw) (And.intro (HK9.out.2.2.2.2.1.below hw) (And.intro (HK9.out.2.2.2.2.2.1.below hw) (And.intro (HK9.out.2.2.2.2.2.2.1.below hw) (And.intro (HK9.out.2.2.2.2.2.2.2.1.below hw) (And.intro (HK9.out.2.2.2.2.2.2.2.2.1.below hw) (And.intro (HK9.out.2.2.2.2.2.2.2.2.2.1.below hw) (And.intro (HK9.out.2.2.2.2.2.2.2.2.2.2.1.below hw) (And.intro (HK9.out.2.2.2.2.2.2.2.2.2.2.2.1.below hw) (And.intro (HK9.out.2.2.2.2.2.2.2.2.2.2.2.2.1.below hw) (HK9.out.2.2.2.2.2.2.2.2.2.2.2.2.2.below hw))))))))))))))
    have HB10 := Lib.hid (HB9.out.trans (hw.mono HB9.out.size))
    clear x00 x01 x02 x03 x04 x05 x06 x07 l0 x10 x11 x12 x13 x14 x15 x16 x17 l1 x20 x21 x22 x23 x24 x25 x26 x27 l2 x30 x31 x32 x33 x34 x35 x36 x37 l3 x40 x41 x42 x43 x44 x45 x46 x47 l4 x50 x51 x52 x53 x54 x55 x56 x57 l5 HB9 hw HX9 HK9
    obtain ⟨gb, hgb⟩ : ∃ g, w9.heap.size = g := ⟨_, rfl⟩
    rw [hgb] at HX10 ⊢
    clear hgb
    generalize w9.alloc (.cells #[.int .i64 K, .int .i64 x.s, .int .i64 x.z, .int .u64 x.zc, .int .u64 x.ct, .int .i64 x.sm, .slice A5 x.P.length c5, .slice B5 x.Q.length d5] 25) = w10 at *
    refine (clone_hv x A3 B3 c3 d3 w10 (HK10.out.2.2.2.2.2.2.2.2.1) (HK10.out.2.2.2.2.2.2.2.2.2.1) (by have := HT.out.is.ox.lP; omega) (by have := HT.out.is.ox.lQ; omega)).mono ?_
    rintro e w11 ⟨A6, B6, c6, d6, rfl, hA, hB, hb, _, _⟩
    simp only [hvA]
    have HX11 := Lib.hid (And.intro (HX10.out.1.below hb) (And.intro (HX10.out.2.1.below hb) (And.intro (HX10.out.2.2.1.below hb) (And.intro (HX10.out.2.2.2.1.below hb) (And.intro (HX10.out.2.2.2.2.1.below hb) (And.intro (HX10.out.2.2.2.2.2.1.below hb) (HX10.out.2.2.2.2.2.2.below hb)))))))
    have HK11 := Lib.hid (And.intro (HK10.out.1.below hb) (And.intro (HK10.out.2.1.below hb) (And.intro (HK10.out.2.2.1.below hb) (And.intro (HK10.out.2.2.2.1.below hb) (And.intro (HK10.out.2.2.2.2.1.below hb) (And.intro (HK10.out.2.2.2.2.2.1.below hb) (And.intro (HK10.out.2.2.2.2.2.2.1.below hb) (And.intro (HK10.out.2.2.2.2.2.2.2.1.below hb) (And.intro (HK10.out.2.2.2.2.2.2.2.2.1.below hb) (And.intro (HK10.out.2.2.2.2.2.2.2.2.2.1.below hb) (And.intro (HK10.out.2.2.2.2.2.2.2.2.2.2.1.below hb) (And.intro (HK10.out.2.2.2.2.2.2.2.2.2.2.2.1.below hb) (And.intro (HK10.out.2.2.2.2.2.2.2.2.2.2.2.2.1.below hb) (And.intro (HK10.out.2.2.2.2.2.2.2.2.2.2.2.2.2.below hb) (And.intro (hA) (hB))))))))))))))))
    have HB11 := Lib.hid (HB10.out.trans (hb.mono HB10.out.size))
    clear HB10 HX10 HK10
    clear hA hB hb
    obtain ⟨x00, x01, x02, x03, x04, x05, x06, x07⟩ := HX11.out.1.cells
    have l0 := HX11.out.1.lt
    obtain ⟨x10, x11, x12, x13, x14, x15, x16, x17⟩ := HX11.out.2.1.cells
    have l1 := HX11.out.2.1.lt
    obtain ⟨x20, x21, x22, x23, x24, x25, x26, x27⟩ := HX11.out.2.2.1.cells
    have l2 := HX11.out.2.2.1.lt
    obtain ⟨x30, x31, x32, x33, x34, x35, x36, x37⟩ := HX11.out.2.2.2.1.cells
    have l3 := HX11.out.2.2.2.1.lt
    obtain ⟨x40, x41, x42, x43, x44, x45, x46, x47⟩ := HX11.out.2.2.2.2.1.cells
    have l4 := HX11.out.2.2.2.2.1.lt
    obtain ⟨x50, x51, x52, x53, x54, x55, x56, x57⟩ := HX11.out.2.2.2.2.2.1.cells
    have l5 := HX11.out.2.2.2.2.2.1.lt
    obtain ⟨x60, x61, x62, x63, x64, x65, x66, x67⟩ := HX11.out.2.2.2.2.2.2.cells
    have l6 := HX11.out.2.2.2.2.2.2.lt
    go_wp2_with fail
    have hw : Below w11.heap.size w11 (w11.alloc (.cells #[.int .i64 K, .int .i64 x.s, .int .i64 x.z, .int .u64 x.zc, .int .u64 x.ct, .int .i64 x.sm, .slice A6 x.P.length c6, .slice B6 x.Q.length d6] 25)) := (Below.refl _ _).alloc (Nat.le_refl _) _
    have HX12 := Lib.hid (And.intro (HX11.out.1.below hw) (And.intro (HX11.out.2.1.below hw) (And.intro (HX11.out.2.2.1.below hw) (And.intro (HX11.out.2.2.2.1.below hw) (And.intro (HX11.out.2.2.2.2.1.below hw) (And.intro (HX11.out.2.2.2.2.2.1.below hw) (And.intro (HX11.out.2.2.2.2.2.2.below hw) (Box.new w11 (.int .i64 K) (.int .i64 x.s) (.int .i64 x.z) (.int .u64 x.zc) (.int .u64 x.ct) (.int .i64 x.sm) (.slice A6 x.P.length c6) (.slice B6 x.Q.length d6)))))))))
    have HK12 := Lib.hid (And.intro (HK11.out.1.below hw) (And.intro (HK11.out.2.1.below hw) (And.intro (HK11.out.2.2.1.below hw) (And.intro (HK11.out.2.2.2.1.below hw) (And.intro (HK11.out.2.2.2.2.1.below hw) (And.intro (HK11.out.2.2.2.2.2.1.below hw) (And.intro (HK11.out.2.2.2.2.2.2.1.below hw) (And.intro (HK11.out.2.2.2.2.2.2.2.1.below hw) (And.intro (HK11.out.2.2.2.2.2.2.2.2.1.below hw) (And.intro (HK11.out.2.2.2.2.2.2.2.2.2.1.below hw) (And.intro (HK11.out.2.2.2.2.2.2.2.2.2.2.1.below hw) (And.intro (HK11.out.2.2.2.2.2.2.2.2.2.2.2.1.below hw) (And.intro (HK11.out.2.2.2.2.2.2.2.2.2.2.2.2.1.below hw) (And.intro (HK11.out.2.2.2.2.2.2.2.2.2.2.2.2.2.1.below hw) (And.intro (HK11.out.2.2.2.2.2.2.2.2.2.2.2.2.2.2.1.below hw) (HK11.out.2.2.2.2.2.2.2.2.2.2.2.2.2.2.2.below hw))))))))))))))))
    have HB12 := Lib.hid (HB11.out.trans (hw.mono HB11.out.size))
    clear x00 x01 x02 x03 x04 x05 x06 x07 l0 x10 x11 x12 x13 x14 x15 x16 x17 l1 x20 x21 x22 x23 x24 x25 x26 x27 l2 x30 x31 x32 x33 x34 x35 x36 x37 l3 x40 x41 x42 x43 x44 x45 x46 x47 l4 x50 x51 x52 x53 x54 x55 x56 x57 l5 x60 x61 x62 x63 x64 x65 x66 x67 l6 HB11 hw HX11 HK11
    obtain ⟨gw, hgw⟩ : ∃ g, w11.heap.size = g := ⟨_, rfl⟩
    rw [hgw] at HX12 ⊢
    clear hgw
    generalize w11.alloc (.cells #[.int .i64 K, .int .i64 x.s, .int .i64 x.z, .int .u64 x.zc, .int .u64 x.ct, .int .i64 x.sm, .slice A6 x.P.length c6, .slice B6 x.Q.length d6] 25) = w12 at *
    refine (awake07 w12).mono ?_
    rintro e w13 ⟨rfl, hb⟩
    have HX13 := Lib.hid (And.intro (HX12.out.1.below hb) (And.intro (HX12.out.2.1.below hb) (And.intro (HX12.out.2.2.1.below hb) (And.intro (HX12.out.2.2.2.1.below hb) (And.intro (HX12.out.2.2.2.2.1.below hb) (And.intro (HX12.out.2.2.2.2.2.1.below hb) (And.intro (HX12.out.2.2.2.2.2.2.1.below hb) (HX12.out.2.2.2.2.2.2.2.below hb))))))))
    have HK13 := Lib.hid (And.intro (HK12.out.1.below hb) (And.intro (HK12.out.2.1.below hb) (And.intro (HK12.out.2.2.1.below hb) (And.intro (HK12.out.2.2.2.1.below hb) (And.intro (HK12.out.2.2.2.2.1.below hb) (And.intro (HK12.out.2.2.2.2.2.1.below hb) (And.intro (HK12.out.2.2.2.2.2.2.1.below hb) (And.intro (HK12.out.2.2.2.2.2.2.2.1.below hb) (And.intro (HK12.out.2.2.2.2.2.2.2.2.1.below hb) (And.intro (HK12.out.2.2.2.2.2.2.2.2.2.1.below hb) (And.intro (HK12.out.2.2.2.2.2.2.2.2.2.2.1.below hb) (And.intro (HK12.out.2.2.2.2.2.2.2.2.2.2.2.1.below hb) (And.intro (HK12.out.2.2.2.2.2.2.2.2.2.2.2.2.1.below hb) (And.intro (HK12.out.2.2.2.2.2.2.2.2.2.2.2.2.2.1.below hb) (And.intro (HK12.out.2.2.2.2.2.2.2.2.2.2.2.2.2.2.1.below hb) (HK12.out.2.2.2.2.2.2.2.2.2.2.2.2.2.2.2.below hb))))))))))))))))
    have HB13 := Lib.hid (HB12.out.trans (hb.mono HB12.out.size))
    clear HB12 HX12 HK12
    clear hb
    obtain ⟨x00, x01, x02, x03, x04, x05, x06, x07⟩ := HX13.out.1.cells
    have l0 := HX13.out.1.lt
    obtain ⟨x10, x11, x12, x13, x14, x15, x16, x17⟩ := HX13.out.2.1.cells
    have l1 := HX13.out.2.1.lt
    obtain ⟨x20, x21, x22, x23, x24, x25, x26, x27⟩ := HX13.out.2.2.1.cells
    have l2 := HX13.out.2.2.1.lt
    obtain ⟨x30, x31, x32, x33, x34, x35, x36, x37⟩ := HX13.out.2.2.2.1.cells
    have l3 := HX13.out.2.2.2.1.lt
    obtain ⟨x40, x41, x42, x43, x44, x45, x46, x47⟩ := HX13.out.2.2.2.2.1.cells
    have l4 := HX13.out.2.2.2.2.1.lt
    obtain ⟨x50, x51, x52, x53, x54, x55, x56, x57⟩ := HX13.out.2.2.2.2.2.1.cells
    have l5 := HX13.out.2.2.2.2.2.1.lt
    obtain ⟨x60, x61, x62, x63, x64, x65, x66, x67⟩ := HX13.out.2.2.2.2.2.2.1.cells
    have l6 := HX13.out.2.2.2.2.2.2.1.lt
    obtain ⟨x70, x71, x72, x73, x74, x75, x76, x77⟩ := HX13.out.2.2.2.2.2.2.2.cells
    have l7 := HX13.out.2.2.2.2.2.2.2.lt
    have hct : r.ct = a.ct + b.ct := by rw [HRR.out, addR_ct HT.out.is.ox HT.out.is.oy, HT.out.is.xc, HT.out.is.yc]
    have hsm : r.sm = a.sm + b.sm := by rw [HRR.out, ← HT.out.is.xm, ← HT.out.is.ym]; rfl
    have hc1 : (r.ct == a.ct + b.ct) = true := by simpa using hct
    have hs1 : (r.sm == a.sm + b.sm) = true := by simpa using hsm
    have hc2 : 0 ≤ a.ct + b.ct := by have h1 := HAO.out.ct; have h2 := HAO.out.zc; have h3 := HAO.out.nP.cnt; have h4 := HAO.out.nQ.cnt; omega
    have hc3 : a.ct + b.ct ≤ 18446744073709551615 := by rw [← hct]; exact HAO.out.big
    have hs2 : -9223372036854775808 ≤ a.sm + b.sm := by rw [← hsm]; exact HAO.out.sm.1
    have hs3 : a.sm + b.sm ≤ 9223372036854775807 := by rw [← hsm]; exact HAO.out.sm.2
    clear hct hsm
    go_wp2_with fail
    refine (same_h ⟨K, x.s, x.z, x.zc, x.ct, x.sm, x.P, x.Q⟩ ⟨K, x.s, x.z, x.zc, x.ct, x.sm, x.P, x.Q⟩ A5 B5 A6 B6 c5 d5 c6 d6 w13 (HK13.out.2.2.2.2.2.2.2.2.2.2.2.2.1) (HK13.out.2.2.2.2.2.2.2.2.2.2.2.2.2.1) (HK13.out.2.2.2.2.2.2.2.2.2.2.2.2.2.2.1) (HK13.out.2.2.2.2.2.2.2.2.2.2.2.2.2.2.2) rfl).mono ?_
    rintro e w14 ⟨rfl, hb⟩
    have HX14 := Lib.hid (And.intro (HX13.out.1.below hb) (And.intro (HX13.out.2.1.below hb) (And.intro (HX13.out.2.2.1.below hb) (And.intro (HX13.out.2.2.2.1.below hb) (And.intro (HX13.out.2.2.2.2.1.below hb) (And.intro (HX13.out.2.2.2.2.2.1.below hb) (And.intro (HX13.out.2.2.2.2.2.2.1.below hb) (HX13.out.2.2.2.2.2.2.2.below hb))))))))
    have HK14 := Lib.hid (And.intro (HK13.out.1.below hb) (And.intro (HK13.out.2.1.below hb) (And.intro (HK13.out.2.2.1.below hb) (And.intro (HK13.out.2.2.2.1.below hb) (And.intro (HK13.out.2.2.2.2.1.below hb) (And.intro (HK13.out.2.2.2.2.2.1.below hb) (And.intro (HK13.out.2.2.2.2.2.2.1.below hb) (And.intro (HK13.out.2.2.2.2.2.2.2.1.below hb) (And.intro (HK13.out.2.2.2.2.2.2.2.2.1.below hb) (And.intro (HK13.out.2.2.2.2.2.2.2.2.2.1.below hb) (And.intro (HK13.out.2.2.2.2.2.2.2.2.2.2.1.below hb) (And.intro (HK13.out.2.2.2.2.2.2.2.2.2.2.2.1.below hb) (And.intro (HK13.out.2.2.2.2.2.2.2.2.2.2.2.2.1.below hb) (And.intro (HK13.out.2.2.2.2.2.2.2.2.2.2.2.2.2.1.below hb) (And.intro (HK13.out.2.2.2.2.2.2.2.2.2.2.2.2.2.2.1.below hb) (HK13.out.2.2.2.2.2.2.2.2.2.2.2.2.2.2.2.below hb))))))))))))))))
    have HB14 := Lib.hid (HB13.out.trans (hb.mono HB13.out.size))
    clear x00 x01 x02 x03 x04 x05 x06 x07 l0 x10 x11 x12 x13 x14 x15 x16 x17 l1 x20 x21 x22 x23 x24 x25 x26 x27 l2 x30 x31 x32 x33 x34 x35 x36 x37 l3 x40 x41 x42 x43 x44 x45 x46 x47 l4 x50 x51 x52 x53 x54 x55 x56 x57 l5 x60 x61 x62 x63 x64 x65 x66 x67 l6 x70 x71 x72 x73 x74 x75 x76 x77 l7 HB13 HX13 HK13
    clear hb
    obtain ⟨x00, x01, x02, x03, x04, x05, x06, x07⟩ := HX14.out.1.cells
    have l0 := HX14.out.1.lt
    obtain ⟨x10, x11, x12, x13, x14, x15, x16, x17⟩ := HX14.out.2.1.cells
    have l1 := HX14.out.2.1.lt
    obtain ⟨x20, x21, x22, x23, x24, x25, x26, x27⟩ := HX14.out.2.2.1.cells
    have l2 := HX14.out.2.2.1.lt
    obtain ⟨x30, x31, x32, x33, x34, x35, x36, x37⟩ := HX14.out.2.2.2.1.cells
    have l3 := HX14.out.2.2.2.1.lt
    obtain ⟨x40, x41, x42, x43, x44, x45, x46, x47⟩ := HX14.out.2.2.2.2.1.cells
    have l4 := HX14.out.2.2.2.2.1.lt
    obtain ⟨x50, x51, x52, x53, x54, x55, x56, x57⟩ := HX14.out.2.2.2.2.2.1.cells
    have l5 := HX14.out.2.2.2.2.2.1.lt
    obtain ⟨x60, x61, x62, x63, x64, x65, x66, x67⟩ := HX14.out.2.2.2.2.2.2.1.cells
    have l6 := HX14.out.2.2.2.2.2.2.1.lt
    obtain ⟨x70, x71, x72, x73, x74, x75, x76, x77⟩ := HX14.out.2.2.2.2.2.2.2.cells
    have l7 := HX14.out.2.2.2.2.2.2.2.lt
    go_wp2_with fail
    refine (reset_two HTB.out.2 A B A1 B1 c d c1 d1 w14 (HK14.out.1) (HK14.out.2.1) (HK14.out.2.2.2.2.1) (HK14.out.2.2.2.2.2.1) false HKR.out).mono ?_
    rintro e w15 ⟨rfl, hb⟩
    have HX15 := Lib.hid (And.intro (HX14.out.1.below hb) (And.intro (HX14.out.2.1.below hb) (And.intro (HX14.out.2.2.1.below hb) (And.intro (HX14.out.2.2.2.1.below hb) (And.intro (HX14.out.2.2.2.2.1.below hb) (And.intro (HX14.out.2.2.2.2.2.1.below hb) (And.intro (HX14.out.2.2.2.2.2.2.1.below hb) (HX14.out.2.2.2.2.2.2.2.below hb))))))))
    have HK15 := Lib.hid (And.intro (HK14.out.1.below hb) (And.intro (HK14.out.2.1.below hb) (And.intro (HK14.out.2.2.1.below hb) (And.intro (HK14.out.2.2.2.1.below hb) (And.intro (HK14.out.2.2.2.2.1.below hb) (And.intro (HK14.out.2.2.2.2.2.1.below hb) (And.intro (HK14.out.2.2.2.2.2.2.1.below hb) (And.intro (HK14.out.2.2.2.2.2.2.2.1.below hb) (And.intro (HK14.out.2.2.2.2.2.2.2.2.1.below hb) (And.intro (HK14.out.2.2.2.2.2.2.2.2.2.1.below hb) (And.intro (HK14.out.2.2.2.2.2.2.2.2.2.2.1.below hb) (And.intro (HK14.out.2.2.2.2.2.2.2.2.2.2.2.1.below hb) (And.intro (HK14.out.2.2.2.2.2.2.2.2.2.2.2.2.1.below hb) (And.intro (HK14.out.2.2.2.2.2.2.2.2.2.2.2.2.2.1.below hb) (And.intro (HK14.out.2.2.2.2.2.2.2.2.2.2.2.2.2.2.1.below hb) (HK14.out.2.2.2.2.2.2.2.2.2.2.2.2.2.2.2.below hb))))))))))))))))
    have HB15 := Lib.hid (HB14.out.trans (hb.mono HB14.out.size))
    clear x00 x01 x02 x03 x04 x05 x06 x07 l0 x10 x11 x12 x13 x14 x15 x16 x17 l1 x20 x21 x22 x23 x24 x25 x26 x27 l2 x30 x31 x32 x33 x34 x35 x36 x37 l3 x40 x41 x42 x43 x44 x45 x46 x47 l4 x50 x51 x52 x53 x54 x55 x56 x57 l5 x60 x61 x62 x63 x64 x65 x66 x67 l6 x70 x71 x72 x73 x74 x75 x76 x77 l7 HB14 HX14 HK14
    clear hb
    obtain ⟨x00, x01, x02, x03, x04, x05, x06, x07⟩ := HX15.out.1.cells
    have l0 := HX15.out.1.lt
    obtain ⟨x10, x11, x12, x13, x14, x15, x16, x17⟩ := HX15.out.2.1.cells
    have l1 := HX15.out.2.1.lt
    obtain ⟨x20, x21, x22, x23, x24, x25, x26, x27⟩ := HX15.out.2.2.1.cells
    have l2 := HX15.out.2.2.1.lt
    obtain ⟨x30, x31, x32, x33, x34, x35, x36, x37⟩ := HX15.out.2.2.2.1.cells
    have l3 := HX15.out.2.2.2.1.lt
    obtain ⟨x40, x41, x42, x43, x44, x45, x46, x47⟩ := HX15.out.2.2.2.2.1.cells
    have l4 := HX15.out.2.2.2.2.1.lt
    obtain ⟨x50, x51, x52, x53, x54, x55, x56, x57⟩ := HX15.out.2.2.2.2.2.1.cells
    have l5 := HX15.out.2.2.2.2.2.1.lt
    obtain ⟨x60, x61, x62, x63, x64, x65, x66, x67⟩ := HX15.out.2.2.2.2.2.2.1.cells
    have l6 := HX15.out.2.2.2.2.2.2.1.lt
    obtain ⟨x70, x71, x72, x73, x74, x75, x76, x77⟩ := HX15.out.2.2.2.2.2.2.2.cells
    have l7 := HX15.out.2.2.2.2.2.2.2.lt
    go_wp2_with fail
    go_ret
    exact ⟨rfl, HB15.out⟩
  · obtain rfl : E = 5 := by have h := HCASE.out; rw [if_neg hok, HRE.out.2] at h; exact h
    clear hok HCASE
    go_wp2_with fail
    refine (awake07 w6).mono ?_
    rintro e w7 ⟨rfl, hb⟩
    have HB7 := Lib.hid (HB6.out.trans (hb.mono HB6.out.size))
    clear hb
    go_wp2_with fail
    go_ret
    exact ⟨rfl, HB7.out⟩
set_option maxHeartbeats 3000000 in
set_option maxRecDepth 100000 in
theorem back_none (a b : HV) (A B A' B' : Option Addr) (c d c' d' : Nat) (w : World) (hP : Bk w A a.P) (hQ : Bk w B a.Q) (hP' : Bk w A' b.P) (hQ' : Bk w B' b.Q) (za : 0 ≤ a.zc ∧ a.zc ≤ 18446744073709551615) (zb : 0 ≤ b.zc ∧ b.zc ≤ 18446744073709551615) (hf : rightF [a, b] = false) :
    Calls Try.prog 7 #[.agg #[.int .i64 a.k, .int .i64 a.s, .int .i64 a.z, .int .u64 a.zc, .int .u64 a.ct, .int .i64 a.sm, .slice A a.P.length c, .slice B a.Q.length d], .agg #[.int .i64 b.k, .int .i64 b.s, .int .i64 b.z, .int .u64 b.zc, .int .u64 b.ct, .int .i64 b.sm, .slice A' b.P.length c', .slice B' b.Q.length d']] w fun e w' => e = .returned (.bool true) ∧ Below w.heap.size w w' := by
  have HF := Lib.hid hf
  clear hf
  have hb0 := (((Below.refl w.heap.size w).alloc (Nat.le_refl _) (.cells #[.int .i64 a.k, .int .i64 a.s, .int .i64 a.z, .int .u64 a.zc, .int .u64 a.ct, .int .i64 a.sm, .slice A a.P.length c, .slice B a.Q.length d] 25)).alloc (by simp) (.cells #[.int .i64 b.k, .int .i64 b.s, .int .i64 b.z, .int .u64 b.zc, .int .u64 b.ct, .int .i64 b.sm, .slice A' b.P.length c', .slice B' b.Q.length d'] 25)).alloc (by simp; omega) (.cells #[.int .i64 a.k, .int .i64 a.s, .int .i64 a.z, .int .u64 a.zc, .int .u64 a.ct, .int .i64 a.sm, .slice A a.P.length c, .slice B a.Q.length d, .int .i64 b.k, .int .i64 b.s, .int .i64 b.z, .int .u64 b.zc, .int .u64 b.ct, .int .i64 b.sm, .slice A' b.P.length c', .slice B' b.Q.length d'] 25)
  have bx0 := ((Box.new w (.int .i64 a.k) (.int .i64 a.s) (.int .i64 a.z) (.int .u64 a.zc) (.int .u64 a.ct) (.int .i64 a.sm) (.slice A a.P.length c) (.slice B a.Q.length d)).alloc (.cells #[.int .i64 b.k, .int .i64 b.s, .int .i64 b.z, .int .u64 b.zc, .int .u64 b.ct, .int .i64 b.sm, .slice A' b.P.length c', .slice B' b.Q.length d'] 25)).alloc (.cells #[.int .i64 a.k, .int .i64 a.s, .int .i64 a.z, .int .u64 a.zc, .int .u64 a.ct, .int .i64 a.sm, .slice A a.P.length c, .slice B a.Q.length d, .int .i64 b.k, .int .i64 b.s, .int .i64 b.z, .int .u64 b.zc, .int .u64 b.ct, .int .i64 b.sm, .slice A' b.P.length c', .slice B' b.Q.length d'] 25)
  have bx1 := (Box.newAt (w.alloc (.cells #[.int .i64 a.k, .int .i64 a.s, .int .i64 a.z, .int .u64 a.zc, .int .u64 a.ct, .int .i64 a.sm, .slice A a.P.length c, .slice B a.Q.length d] 25)) (w.heap.size + 1) (by simp) (.int .i64 b.k) (.int .i64 b.s) (.int .i64 b.z) (.int .u64 b.zc) (.int .u64 b.ct) (.int .i64 b.sm) (.slice A' b.P.length c') (.slice B' b.Q.length d')).alloc (.cells #[.int .i64 a.k, .int .i64 a.s, .int .i64 a.z, .int .u64 a.zc, .int .u64 a.ct, .int .i64 a.sm, .slice A a.P.length c, .slice B a.Q.length d, .int .i64 b.k, .int .i64 b.s, .int .i64 b.z, .int .u64 b.zc, .int .u64 b.ct, .int .i64 b.sm, .slice A' b.P.length c', .slice B' b.Q.length d'] 25)
  have bx2 := Hl.two (w := ((w.alloc (.cells #[.int .i64 a.k, .int .i64 a.s, .int .i64 a.z, .int .u64 a.zc, .int .u64 a.ct, .int .i64 a.sm, .slice A a.P.length c, .slice B a.Q.length d] 25)).alloc (.cells #[.int .i64 b.k, .int .i64 b.s, .int .i64 b.z, .int .u64 b.zc, .int .u64 b.ct, .int .i64 b.sm, .slice A' b.P.length c', .slice B' b.Q.length d'] 25)).alloc (.cells #[.int .i64 a.k, .int .i64 a.s, .int .i64 a.z, .int .u64 a.zc, .int .u64 a.ct, .int .i64 a.sm, .slice A a.P.length c, .slice B a.Q.length d, .int .i64 b.k, .int .i64 b.s, .int .i64 b.z, .int .u64 b.zc, .int .u64 b.ct, .int .i64 b.sm, .slice A' b.P.length c', .slice B' b.Q.length d'] 25)) (g := w.heap.size + 1 + 1) (by have := heap_alloc_new ((w.alloc (.cells #[.int .i64 a.k, .int .i64 a.s, .int .i64 a.z, .int .u64 a.zc, .int .u64 a.ct, .int .i64 a.sm, .slice A a.P.length c, .slice B a.Q.length d] 25)).alloc (.cells #[.int .i64 b.k, .int .i64 b.s, .int .i64 b.z, .int .u64 b.zc, .int .u64 b.ct, .int .i64 b.sm, .slice A' b.P.length c', .slice B' b.Q.length d'] 25)) (.cells #[.int .i64 a.k, .int .i64 a.s, .int .i64 a.z, .int .u64 a.zc, .int .u64 a.ct, .int .i64 a.sm, .slice A a.P.length c, .slice B a.Q.length d, .int .i64 b.k, .int .i64 b.s, .int .i64 b.z, .int .u64 b.zc, .int .u64 b.ct, .int .i64 b.sm, .slice A' b.P.length c', .slice B' b.Q.length d'] 25); simpa using this) (hP.below hb0) (hQ.below hb0) (hP'.below hb0) (hQ'.below hb0) za zb
  have HX0 := Lib.hid (And.intro bx0 bx1)
  have HK0 := Lib.hid (And.intro (hP.below hb0) (And.intro (hQ.below hb0) (And.intro (hP'.below hb0) (hQ'.below hb0))))
  have HB0 := Lib.hid hb0
  have HL := Lib.hid bx2
  clear hP hQ hP' hQ' za zb hb0 bx0 bx1 bx2
  go_enter Try.func7, Try.ntmps7
  go_wp2_with fail
  generalize ((w.alloc (.cells #[.int .i64 a.k, .int .i64 a.s, .int .i64 a.z, .int .u64 a.zc, .int .u64 a.ct, .int .i64 a.sm, .slice A a.P.length c, .slice B a.Q.length d] 25)).alloc (.cells #[.int .i64 b.k, .int .i64 b.s, .int .i64 b.z, .int .u64 b.zc, .int .u64 b.ct, .int .i64 b.sm, .slice A' b.P.length c', .slice B' b.Q.length d'] 25)).alloc (.cells #[.int .i64 a.k, .int .i64 a.s, .int .i64 a.z, .int .u64 a.zc, .int .u64 a.ct, .int .i64 a.sm, .slice A a.P.length c, .slice B a.Q.length d, .int .i64 b.k, .int .i64 b.s, .int .i64 b.z, .int .u64 b.zc, .int .u64 b.ct, .int .i64 b.sm, .slice A' b.P.length c', .slice B' b.Q.length d'] 25) = w0 at *
  refine (lright_any (some ⟨w.heap.size + 1 + 1, 0, none⟩) 2 2 [a, b] w0 rfl HL.out).mono ?_
  rintro e w1 ⟨rfl, hb⟩
  rw [HF.out]
  have HX1 := Lib.hid (And.intro (HX0.out.1.below hb) (HX0.out.2.below hb))
  have HK1 := Lib.hid (And.intro (HK0.out.1.below hb) (And.intro (HK0.out.2.1.below hb) (And.intro (HK0.out.2.2.1.below hb) (HK0.out.2.2.2.below hb))))
  have HB1 := Lib.hid (HB0.out.trans (hb.mono HB0.out.size))
  clear HB0 HX0 HK0
  clear hb HL
  obtain ⟨x00, x01, x02, x03, x04, x05, x06, x07⟩ := HX1.out.1.cells
  have l0 := HX1.out.1.lt
  obtain ⟨x10, x11, x12, x13, x14, x15, x16, x17⟩ := HX1.out.2.cells
  have l1 := HX1.out.2.lt
  go_wp2_with fail
  refine (awake07 w1).mono ?_
  rintro e w2 ⟨rfl, hb⟩
  have HX2 := Lib.hid (And.intro (HX1.out.1.below hb) (HX1.out.2.below hb))
  have HK2 := Lib.hid (And.intro (HK1.out.1.below hb) (And.intro (HK1.out.2.1.below hb) (And.intro (HK1.out.2.2.1.below hb) (HK1.out.2.2.2.below hb))))
  have HB2 := Lib.hid (HB1.out.trans (hb.mono HB1.out.size))
  clear x00 x01 x02 x03 x04 x05 x06 x07 l0 x10 x11 x12 x13 x14 x15 x16 x17 l1 HB1 HX1 HK1
  clear hb
  go_wp2_with fail
  go_ret
  exact ⟨rfl, HB2.out⟩
theorem back_walk (a b : HV) (A B A' B' : Option Addr) (c d c' d' : Nat) (w : World) (hP : Bk w A a.P) (hQ : Bk w B a.Q) (hP' : Bk w A' b.P) (hQ' : Bk w B' b.Q) (za : 0 ≤ a.zc ∧ a.zc ≤ 18446744073709551615) (zb : 0 ≤ b.zc ∧ b.zc ≤ 18446744073709551615) (sa : inI64 a.sm) (sb : inI64 b.sm) :
    Calls Try.prog 7 #[.agg #[.int .i64 a.k, .int .i64 a.s, .int .i64 a.z, .int .u64 a.zc, .int .u64 a.ct, .int .i64 a.sm, .slice A a.P.length c, .slice B a.Q.length d], .agg #[.int .i64 b.k, .int .i64 b.s, .int .i64 b.z, .int .u64 b.zc, .int .u64 b.ct, .int .i64 b.sm, .slice A' b.P.length c', .slice B' b.Q.length d']] w fun e w' => e = .returned (.bool true) ∧ Below w.heap.size w w' := by
  rcases hf : rightF [a, b] with _ | _
  · exact back_none a b A B A' B' c d c' d' w hP hQ hP' hQ' za zb hf
  · have h := List.all_eq_true.1 hf
    have ha := h a (by simp)
    have hb := h b (by simp)
    exact back_main a b A B A' B' c d c' d' w hP hQ hP' hQ' (fewB_ok ha za.1 sa hP.2.1 hQ.2.1) (fewB_ok hb zb.1 sb hP'.2.1 hQ'.2.1) ⟨ha, hb⟩
end Go.Proofs.Ytofaciagkkipbaa
