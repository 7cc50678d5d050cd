/- Which histograms the laws of rank are about. -/
import Derived.Test.YtbibhjcmdehdbaaRkK
namespace Go.Proofs.Ytbibhjcmdehdbaa
open Go.RowKit Go.Sort
set_option linter.unusedVariables false

def fewK (h : HV) : Bool := decide (h.P.length ≤ 100 ∧ h.Q.length ≤ 100 ∧ chk h = 0)
theorem fewK_ok {h : HV} (hf : fewK h = true) (z0 : 0 ≤ h.zc) (hs : inI64 h.sm) (hP : ∀ p ∈ h.P, Wb p) (hQ : ∀ p ∈ h.Q, Wb p) : Ok h := by
  unfold fewK at hf
  rw [decide_eq_true_eq] at hf
  exact Ok.of hf.2.2 z0 hs (wb_nn hP) (wb_nn hQ)
set_option maxRecDepth 100000 in
theorem right08 (h : HV) (A B : Option Addr) (c d : Nat) (w : World) (hP : Bk w A h.P) (hQ : Bk w B h.Q) (z0 : 0 ≤ h.zc) (z1 : h.zc ≤ 18446744073709551615) :
    Calls Try.prog 24 #[.agg #[.int .i64 h.k, .int .i64 h.s, .int .i64 h.z, .int .u64 h.zc, .int .u64 h.ct, .int .i64 h.sm, .slice A h.P.length c, .slice B h.Q.length d]] w fun e w' => e = .returned (.bool (fewK h)) ∧ Below w.heap.size w w' := by
  have hb0 : Below w.heap.size w (w.alloc (.cells #[.int .i64 h.k, .int .i64 h.s, .int .i64 h.z, .int .u64 h.zc, .int .u64 h.ct, .int .i64 h.sm, .slice A h.P.length c, .slice B h.Q.length d] 25)) := (Below.refl _ _).alloc (Nat.le_refl _) _
  have HB0 := Lib.hid hb0
  have HX0 := Lib.hid (Rb.new w w.heap.size rfl 25 #[.int .i64 h.k, .int .i64 h.s, .int .i64 h.z, .int .u64 h.zc, .int .u64 h.ct, .int .i64 h.sm, .slice A h.P.length c, .slice B h.Q.length d])
  have HK0 := Lib.hid (And.intro (hP.below hb0) (hQ.below hb0))
  have hl1 := hP.1
  have hl2 := hQ.1
  obtain ⟨vF, hvF⟩ : ∃ v, fewK h = v := ⟨_, rfl⟩
  rw [hvF]
  have HV := Lib.hid hvF
  clear hP hQ hb0 hvF
  go_enter Try.func24, Try.ntmps24
  go_upto_region 1 with fail
  generalize (w.alloc (.cells #[.int .i64 h.k, .int .i64 h.s, .int .i64 h.z, .int .u64 h.zc, .int .u64 h.ct, .int .i64 h.sm, .slice A h.P.length c, .slice B h.Q.length d] 25)) = w0 at *
  obtain ⟨x0, x1, x2, x3, x4, x5, x6, x7⟩ := HX0.out.eight
  have lx := HX0.out.lt
  by_cases h1 : h.P.length ≤ 100
  · have d1 : (h.P.length : Int) ≤ 100 := by omega
    by_cases h2 : h.Q.length ≤ 100
    · have d2 : (h.Q.length : Int) ≤ 100 := by omega
      by_cases h3 : chk h = 0
      · have H3 := Lib.hid (show vF = true from by rw [← HV.out]; unfold fewK; rw [decide_eq_true_eq]; exact ⟨h1, h2, h3⟩)
        have HC := Lib.hid h3
        clear h1 h2 h3
        go_wp2_with fail
        refine (refcheckN h.k h.s h.z h.zc h.ct (.int .i64 h.sm) A B c d h.P h.Q _ z0 z1 HK0.out.1 HK0.out.2 0 HC.out).mono ?_
        rintro e w2 ⟨rfl, hb2⟩
        have HB2 := Lib.hid (HB0.out.trans (hb2.mono HB0.out.size))
        clear hb2 x0 x1 x2 x3 x4 x5 x6 x7 lx
        go_wp2_with fail
        go_ret
        exact ⟨ret_bool H3.out.symm, HB2.out⟩
      · have H3 := Lib.hid (show vF = false from by rw [← HV.out]; unfold fewK; rw [decide_eq_false_iff_not]; exact fun h => h3 h.2.2)
        obtain ⟨E, hE⟩ : ∃ E, chk h = E := ⟨_, rfl⟩
        have hE0 : (E == 0) = false := by rw [← hE]; simpa using h3
        have HC := Lib.hid hE
        clear h1 h2 h3 hE
        go_wp2_with fail
        refine (refcheckN h.k h.s h.z h.zc h.ct (.int .i64 h.sm) A B c d h.P h.Q _ z0 z1 HK0.out.1 HK0.out.2 E HC.out).mono ?_
        rintro e w2 ⟨rfl, hb2⟩
        have HB2 := Lib.hid (HB0.out.trans (hb2.mono HB0.out.size))
        clear hb2 x0 x1 x2 x3 x4 x5 x6 x7 lx
        go_wp2_with fail
        go_ret
        exact ⟨ret_bool H3.out.symm, HB2.out⟩
    · have d2 : ¬ (h.Q.length : Int) ≤ 100 := by omega
      have H3 := Lib.hid (show vF = false from by rw [← HV.out]; unfold fewK; rw [decide_eq_false_iff_not]; exact fun h => h2 h.2.1)
      clear h1 h2
      go_wp2_with fail
      go_ret
      exact ⟨ret_bool H3.out.symm, HB0.out⟩
  · have d1 : ¬ (h.P.length : Int) ≤ 100 := by omega
    have H3 := Lib.hid (show vF = false from by rw [← HV.out]; unfold fewK; rw [decide_eq_false_iff_not]; exact fun h => h1 h.1)
    clear h1
    go_wp2_with fail
    go_ret
    exact ⟨ret_bool H3.out.symm, HB0.out⟩
end Go.Proofs.Ytbibhjcmdehdbaa
