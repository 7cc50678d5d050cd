/- The program's Quantile. -/
import Derived.Test.YtbibhjcmdehdbaaRkI
import Derived.Test.YtbibhjcmdehdbaaRkO
namespace Go.Proofs.Ytbibhjcmdehdbaa
open Go.RowKit Go.Sort
set_option linter.unusedVariables false

/-- the rank of a part, at least 1 -/
def qN (ct part whole : Int) : Int := max (-(-(part * ct) / whole)) 1
def quE (h : HV) (part whole : Int) : Int := if whole = 0 ∨ whole < part then 1 else atE h (qN h.ct part whole)
def quC (h : HV) (part whole : Int) : Cel := if whole = 0 ∨ whole < part then c0 else atC h (qN h.ct part whole)
theorem up_le {x y m : Int} (hy : 0 < y) (h : x ≤ m * y) : -(-x / y) ≤ m := by
  have h1 : -m ≤ -x / y := (Int.le_ediv_iff_mul_le hy).2 (by rw [Int.neg_mul]; omega)
  omega
theorem up_ge {x y m : Int} (hy : 0 < y) (h : -(-x / y) ≤ m) : x ≤ m * y := by
  have h1 : -m * y ≤ -x := (Int.le_ediv_iff_mul_le hy).1 (by omega)
  rw [Int.neg_mul] at h1
  omega
theorem up_pos {x y : Int} (hy : 0 < y) (h : 0 ≤ x) : 0 ≤ -(-x / y) := by
  have h1 : -x / y < 1 := Int.ediv_lt_of_lt_mul hy (by omega)
  omega
theorem q_fits {part ct whole : Int} (p0 : 0 ≤ part) (p1 : part ≤ whole) (h0 : 0 < whole) (h1 : whole ≤ 18446744073709551615) (c0 : 0 ≤ ct) (c1 : ct ≤ 18446744073709551615) :
    ceilV (mulh part ct) (mull part ct) whole = -(-(part * ct) / whole) ∧ ceilE (mulh part ct) (mull part ct) whole = 0 ∧ 0 ≤ -(-(part * ct) / whole) ∧ -(-(part * ct) / whole) ≤ ct := by
  have hm : part * ct ≤ ct * whole := by rw [Int.mul_comm]; exact Int.mul_le_mul_of_nonneg_left p1 c0
  have hn : 0 ≤ part * ct := Int.mul_nonneg p0 c0
  have hw := mul_whole part ct
  have hl := mull_bd part ct
  have hc := up_le h0 hm
  have hp := up_pos h0 hn
  have hN : ceilN (mulh part ct) (mull part ct) whole = -(-(part * ct) / whole) := by unfold ceilN; rw [hw]
  have hcw : ct * whole ≤ 18446744073709551615 * whole := Int.mul_le_mul_of_nonneg_right c1 (by omega)
  have hlt : mulh part ct < whole := by unfold two64 at hw; omega
  obtain ⟨e1, e2⟩ := ceil_fits (h := mulh part ct) (l := mull part ct) hlt (by rw [hN]; omega)
  exact ⟨by rw [e1, hN], e2, hp, hc⟩

set_option maxHeartbeats 4000000 in
set_option maxRecDepth 100000 in
theorem quant_any (h : HV) (A B : Option Addr) (c d : Nat) (p o_ : Int) (w : World) (hP : Bk w A h.P) (hQ : Bk w B h.Q) (o : Ok h) (p0 : 0 ≤ p) (p1 : p ≤ 18446744073709551615) (o0 : 0 ≤ o_) (o1 : o_ ≤ 18446744073709551615) :
    Calls Try.prog 32 #[.agg #[.int .i64 h.k, .int .i64 h.s, .int .i64 h.z, .int .u64 h.zc, .int .u64 h.ct, .int .i64 h.sm, .slice A h.P.length c, .slice B h.Q.length d], .int .u64 p, .int .u64 o_] w fun e w' => e = .returned (.tuple #[.agg #[.int .i64 (quC h p o_).d, .int .i64 (quC h p o_).s, .int .i64 (quC h p o_).i], .int .i64 (quE h p o_)]) ∧ Below w.heap.size w w' := by
  have hb0 : Below w.heap.size w ((w.alloc (.cells #[.int .i64 h.k, .int .i64 h.s, .int .i64 h.z, .int .u64 h.zc, .int .u64 h.ct, .int .i64 h.sm, .slice A h.P.length c, .slice B h.Q.length d] 25)).alloc (.cells #[.int .i64 0, .int .i64 0, .int .i64 0] 48)) := ((Below.refl _ _).alloc (Nat.le_refl _) _).alloc (by simp) _
  have HX0 := Lib.hid (And.intro ((Rb.new w w.heap.size rfl 25 #[.int .i64 h.k, .int .i64 h.s, .int .i64 h.z, .int .u64 h.zc, .int .u64 h.ct, .int .i64 h.sm, .slice A h.P.length c, .slice B h.Q.length d]).alloc (.cells #[.int .i64 0, .int .i64 0, .int .i64 0] 48)) (Rb.new (w.alloc (.cells #[.int .i64 h.k, .int .i64 h.s, .int .i64 h.z, .int .u64 h.zc, .int .u64 h.ct, .int .i64 h.sm, .slice A h.P.length c, .slice B h.Q.length d] 25)) (w.heap.size + 1) (by simp) 48 #[.int .i64 0, .int .i64 0, .int .i64 0]))
  have HB0 := Lib.hid hb0
  have HK0 := Lib.hid (And.intro (hP.below hb0) (hQ.below hb0))
  have HO := Lib.hid o
  have hct0 : 0 ≤ h.ct := by have g := o.toGood; have h1 := g.zc; have h2 := g.nP.cnt; have h3 := g.nQ.cnt; have h4 := g.ct; omega
  have hct1 := o.big
  clear hP hQ o hb0
  by_cases hbad : o_ = 0 ∨ o_ < p
  · have e1 : quE h p o_ = 1 := if_pos hbad
    have e2 : quC h p o_ = c0 := if_pos hbad
    rw [e1, e2]
    clear e1 e2
    go_enter Try.func32, Try.ntmps32
    go_upto_region 1 with fail
    generalize ((w.alloc (.cells #[.int .i64 h.k, .int .i64 h.s, .int .i64 h.z, .int .u64 h.zc, .int .u64 h.ct, .int .i64 h.sm, .slice A h.P.length c, .slice B h.Q.length d] 25)).alloc (.cells #[.int .i64 0, .int .i64 0, .int .i64 0] 48)) = w0 at *
    obtain ⟨r0, r1, r2, f0, f1, f2⟩ := HX0.out.2.three
    have lr := HX0.out.2.lt
    by_cases hz : o_ = 0
    · subst hz
      clear hbad
      go_wp2_with fail
      exact bodyPost_ret (v := .tuple #[.agg #[.int .i64 0, .int .i64 0, .int .i64 0], .int .i64 1]) (by simp [results, Try.results32, go_sem, r0, r1, r2]) rfl ⟨rfl, (((HB0.out.setCell (p := ⟨w.heap.size + 1, 0, none⟩) (by simp) _).setCell (p := ⟨w.heap.size + 1, 1, none⟩) (by simp) _).setCell (p := ⟨w.heap.size + 1, 2, none⟩) (by simp) _)⟩
    · have hz1 : (o_ == 0) = false := by simpa using hz
      have hz2 : o_ < p := by omega
      clear hz hbad
      go_wp2_with fail
      exact bodyPost_ret (v := .tuple #[.agg #[.int .i64 0, .int .i64 0, .int .i64 0], .int .i64 1]) (by simp [results, Try.results32, go_sem, r0, r1, r2]) rfl ⟨rfl, (((HB0.out.setCell (p := ⟨w.heap.size + 1, 0, none⟩) (by simp) _).setCell (p := ⟨w.heap.size + 1, 1, none⟩) (by simp) _).setCell (p := ⟨w.heap.size + 1, 2, none⟩) (by simp) _)⟩
  · have e1 : quE h p o_ = atE h (qN h.ct p o_) := if_neg hbad
    have e2 : quC h p o_ = atC h (qN h.ct p o_) := if_neg hbad
    rw [e1, e2]
    obtain ⟨g1, g2, g3, g4⟩ := q_fits (part := p) (ct := h.ct) (whole := o_) p0 (by omega) (by omega) o1 hct0 hct1
    have HM := Lib.hid (mulh_bd p0 p1 hct0 hct1)
    have HML := Lib.hid (mull_bd p h.ct)
    obtain ⟨Q, hq⟩ : ∃ x, -(-(p * h.ct) / o_) = x := ⟨_, rfl⟩
    unfold qN
    rw [hq] at g1 g3 g4 ⊢
    have HG := Lib.hid (And.intro g1 g2)
    obtain ⟨vC, hvC⟩ : ∃ v, atC h (max Q 1) = v := ⟨_, rfl⟩
    obtain ⟨vE, hvE⟩ : ∃ v, atE h (max Q 1) = v := ⟨_, rfl⟩
    rw [hvC, hvE]
    have HVV := Lib.hid (And.intro hvC hvE)
    clear hvC hvE
    have hz1 : (o_ == 0) = false := by simp; omega
    have hz2 : ¬ o_ < p := by omega
    clear e1 e2 g1 g2 hq
    go_enter Try.func32, Try.ntmps32
    go_upto_region 1 with fail
    generalize ((w.alloc (.cells #[.int .i64 h.k, .int .i64 h.s, .int .i64 h.z, .int .u64 h.zc, .int .u64 h.ct, .int .i64 h.sm, .slice A h.P.length c, .slice B h.Q.length d] 25)).alloc (.cells #[.int .i64 0, .int .i64 0, .int .i64 0] 48)) = w0 at *
    obtain ⟨x0, x1, x2, x3, x4, x5, x6, x7⟩ := HX0.out.1.eight
    have lx := HX0.out.1.lt
    clear hbad
    go_wp2_with fail
    refine (mul_any p h.ct w0 p0 p1 hct0 hct1).mono ?_
    rintro e w1 ⟨rfl, hb1⟩
    have HX1 := Lib.hid (And.intro (HX0.out.1.below hb1) (HX0.out.2.below hb1))
    have HB1 := Lib.hid (HB0.out.trans (hb1.mono HB0.out.size))
    have HK1 := Lib.hid (And.intro (HK0.out.1.below hb1) (HK0.out.2.below hb1))
    clear hb1 HX0 HB0 HK0 x0 x1 x2 x3 x4 x5 x6 x7 lx
    go_wp2_with fail
    refine (ceil_any (mulh p h.ct) (mull p h.ct) o_ w1 HM.out.1 HML.out.1 HML.out.2 o1).mono ?_
    rintro e w2 ⟨rfl, hb2⟩
    rw [HG.out.1, HG.out.2]
    have HX2 := Lib.hid (And.intro (HX1.out.1.below hb2) (HX1.out.2.below hb2))
    have HB2 := Lib.hid (HB1.out.trans (hb2.mono HB1.out.size))
    have HK2 := Lib.hid (And.intro (HK1.out.1.below hb2) (HK1.out.2.below hb2))
    clear hb2 HX1 HB1 HK1
    obtain ⟨x0, x1, x2, x3, x4, x5, x6, x7⟩ := HX2.out.1.eight
    have lx := HX2.out.1.lt
    go_wp2_with fail
    refine (at_any h A B c d (max Q 1) w2 HK2.out.1 HK2.out.2 HO.out (by omega) (by omega)).mono ?_
    rintro e w3 ⟨rfl, hb3⟩
    rw [HVV.out.1, HVV.out.2]
    have HB3 := Lib.hid (HB2.out.trans (hb3.mono HB2.out.size))
    obtain ⟨r0, r1, r2, f0, f1, f2⟩ := (HX2.out.2.below hb3).three
    have lr := (HX2.out.2.below hb3).lt
    clear hb3 HX2 HB2 HK2 x0 x1 x2 x3 x4 x5 x6 x7 lx
    go_wp2_with fail
    exact bodyPost_ret (v := .tuple #[.agg #[.int .i64 vC.d, .int .i64 vC.s, .int .i64 vC.i], .int .i64 vE]) (by simp [results, Try.results32, go_sem, r0, r1, r2]) rfl ⟨rfl, (((HB3.out.setCell (p := ⟨w.heap.size + 1, 0, none⟩) (by simp) _).setCell (p := ⟨w.heap.size + 1, 1, none⟩) (by simp) _).setCell (p := ⟨w.heap.size + 1, 2, none⟩) (by simp) _)⟩
end Go.Proofs.Ytbibhjcmdehdbaa
