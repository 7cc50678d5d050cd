/- Which histograms the laws of rank are about. -/
import Derived.Test.YtbibhjcmdehdbaaRkJ
import Derived.Test.YtbibhjcmdehdbaaHsR
import Derived.Test.YtbibhjcmdehdbaaMdH
/-! What the laws of rank begin with: their example, and which histograms they are about. -/
namespace Go.Proofs.Ytbibhjcmdehdbaa
open Go.RowKit Go.Sort
set_option linter.unusedVariables false

deriving instance DecidableEq for Cel
def exK : HV := ⟨0, 0, -524288, 0, 4, 0, [(1, 2), (3, 2)], []⟩
theorem exk_mk : mkE ⟨0, 0, -524288, 0, 0, 0, [], []⟩ [(1, 2), (3, 2)] [] = 0 := by decide +kernel
theorem exk_mkO : mkO ⟨0, 0, -524288, 0, 0, 0, [], []⟩ [(1, 2), (3, 2)] [] = exK := by
  unfold mkO
  rw [exk_mk, if_pos rfl]
  refine HV.eq rfl rfl rfl rfl ?_ rfl ?_ rfl
  · decide +kernel
  · decide +kernel
theorem exk_ok : Ok exK := Ok.of (by decide +kernel) (by decide) (by unfold inI64; decide) (fun p hp => by simp [exK] at hp; rcases hp with rfl | rfl <;> decide) (fun p hp => by simp [exK] at hp)
theorem exk_a : quE exK 1 2 = 0 ∧ quC exK 1 2 = ⟨1, 0, 1, 2⟩ := by decide +kernel
theorem exk_b : quE exK 501 1000 = 0 ∧ quC exK 501 1000 = ⟨1, 0, 3, 2⟩ := by decide +kernel
set_option maxHeartbeats 2000000 in
set_option maxRecDepth 100000 in
theorem awake08 (w : World) : Calls Try.prog 25 #[] w fun e w' => e = .returned (.bool true) ∧ Below w.heap.size w w' := by
  go_enter Try.func25, Try.ntmps25
  go_wp2_with fail
  refine (empty_any 0 0 _).mono ?_
  rintro e w1 ⟨rfl, hb1⟩
  have HB1 := Lib.hid hb1
  clear hb1
  go_wp2_with fail
  refine (make_hv ⟨0, 0, -524288, 0, 0, 0, [], []⟩ 0 none none (some ⟨w1.heap.size, 0, none⟩) none 0 0 0 0 2 0 [(1, 2), (3, 2)] [] _ ⟨by decide, by decide⟩ (by decide) (by decide) ?_ (Bk.nil _ _) (by simp) (by simp)).mono ?_
  · refine ⟨by simp, wbL (by decide), .inr ⟨w1.heap.size, 0, rfl, fun j p hj => ?_⟩⟩
    match j, hj with
    | 0, hj => simp at hj; subst hj; simp [go_sem]
    | 1, hj => simp at hj; subst hj; simp [go_sem]
  · intro e w2 hR
    obtain ⟨A1, B1, c1, d1, rfl, hA, hB, hb2, _, _⟩ := hR.as exk_mkO exk_mk
    have HA := Lib.hid (And.intro hA hB)
    have HB2 := Lib.hid (HB1.out.trans (((Below.refl _ _).alloc (Nat.le_refl _) _).trans (hb2.mono (by simp)) |>.mono HB1.out.size))
    clear hR hA hB hb2
    unfold exK at HA
    simp only [hvA, exK]
    go_wp2_with fail
    have hw : Below w2.heap.size w2 (w2.alloc (.cells #[.int .i64 0, .int .i64 0, .int .i64 (-524288), .int .u64 0, .int .u64 4, .int .i64 0, .slice A1 2 c1, .slice B1 0 d1] 25)) := (Below.refl _ _).alloc (Nat.le_refl _) _
    refine (quant_any exK A1 B1 c1 d1 1 2 _ (HA.out.1.below hw) (HA.out.2.below hw) exk_ok (by decide) (by decide) (by decide) (by decide)).mono ?_
    rintro e w3 ⟨rfl, hb3⟩
    rw [exk_a.1, exk_a.2]
    have HX3 := Lib.hid ((Rb.new w2 w2.heap.size rfl 25 #[.int .i64 0, .int .i64 0, .int .i64 (-524288), .int .u64 0, .int .u64 4, .int .i64 0, .slice A1 2 c1, .slice B1 0 d1]).below hb3)
    have HB3 := Lib.hid (HB2.out.trans ((hw.trans (hb3.mono (by simp))).mono HB2.out.size))
    have HA3 := Lib.hid (And.intro ((HA.out.1.below hw).below hb3) ((HA.out.2.below hw).below hb3))
    clear hw hb3 HA HB2
    obtain ⟨x0, x1, x2, x3, x4, x5, x6, x7⟩ := HX3.out.eight
    have lx := HX3.out.lt
    go_wp2_with fail
    have hw : Below w3.heap.size w3 (w3.alloc (.cells #[.int .i64 1, .int .i64 0, .int .i64 1] 48)) := (Below.refl _ _).alloc (Nat.le_refl _) _
    refine (quant_any exK A1 B1 c1 d1 501 1000 _ (HA3.out.1.below hw) (HA3.out.2.below hw) exk_ok (by decide) (by decide) (by decide) (by decide)).mono ?_
    rintro e w4 ⟨rfl, hb4⟩
    rw [exk_b.1, exk_b.2]
    have HX4 := Lib.hid ((Rb.new w3 w3.heap.size rfl 48 #[.int .i64 1, .int .i64 0, .int .i64 1]).below hb4)
    have HB4 := Lib.hid (HB3.out.trans ((hw.trans (hb4.mono (by simp))).mono HB3.out.size))
    clear hw hb4 HA3 HB3 HX3 x0 x1 x2 x3 x4 x5 x6 x7 lx
    obtain ⟨k0, k1, k2, k3, k4, k5⟩ := HX4.out.three
    have lk := HX4.out.lt
    go_wp2_with fail
    go_ret
    exact ⟨rfl, HB4.out.alloc HB4.out.size _⟩
end Go.Proofs.Ytbibhjcmdehdbaa

/-! Which histograms the laws of rank are about. -/
namespace Go.Proofs.Ytbibhjcmdehdbaa
open Go.RowKit Go.Sort
set_option linter.unusedVariables false

def fewK (h : HV) : Bool := decide (h.P.length ≤ 100 ∧ h.Q.length ≤ 100 ∧ chk h = 0)
theorem fewK_ok {h : HV} (hf : fewK h = true) (z0 : 0 ≤ h.zc) (hs : inI64 h.sm) (hP : ∀ p ∈ h.P, Wb p) (hQ : ∀ p ∈ h.Q, Wb p) : Ok h := by
  unfold fewK at hf
  rw [decide_eq_true_eq] at hf
  exact Ok.of hf.2.2 z0 hs (wb_nn hP) (wb_nn hQ)
set_option maxRecDepth 100000 in
theorem right08 (h : HV) (A B : Option Addr) (c d : Nat) (w : World) (hP : Bk w A h.P) (hQ : Bk w B h.Q) (z0 : 0 ≤ h.zc) (z1 : h.zc ≤ 18446744073709551615) :
    Calls Try.prog 24 #[.agg #[.int .i64 h.k, .int .i64 h.s, .int .i64 h.z, .int .u64 h.zc, .int .u64 h.ct, .int .i64 h.sm, .slice A h.P.length c, .slice B h.Q.length d]] w fun e w' => e = .returned (.bool (fewK h)) ∧ Below w.heap.size w w' := by
  have hb0 : Below w.heap.size w (w.alloc (.cells #[.int .i64 h.k, .int .i64 h.s, .int .i64 h.z, .int .u64 h.zc, .int .u64 h.ct, .int .i64 h.sm, .slice A h.P.length c, .slice B h.Q.length d] 25)) := (Below.refl _ _).alloc (Nat.le_refl _) _
  have HB0 := Lib.hid hb0
  have HX0 := Lib.hid (Rb.new w w.heap.size rfl 25 #[.int .i64 h.k, .int .i64 h.s, .int .i64 h.z, .int .u64 h.zc, .int .u64 h.ct, .int .i64 h.sm, .slice A h.P.length c, .slice B h.Q.length d])
  have HK0 := Lib.hid (And.intro (hP.below hb0) (hQ.below hb0))
  have hl1 := hP.1
  have hl2 := hQ.1
  obtain ⟨vF, hvF⟩ : ∃ v, fewK h = v := ⟨_, rfl⟩
  rw [hvF]
  have HV := Lib.hid hvF
  clear hP hQ hb0 hvF
  go_enter Try.func24, Try.ntmps24
  go_upto_region 1 with fail
  generalize (w.alloc (.cells #[.int .i64 h.k, .int .i64 h.s, .int .i64 h.z, .int .u64 h.zc, .int .u64 h.ct, .int .i64 h.sm, .slice A h.P.length c, .slice B h.Q.length d] 25)) = w0 at *
  obtain ⟨x0, x1, x2, x3, x4, x5, x6, x7⟩ := HX0.out.eight
  have lx := HX0.out.lt
  by_cases h1 : h.P.length ≤ 100
  · have d1 : (h.P.length : Int) ≤ 100 := by omega
    by_cases h2 : h.Q.length ≤ 100
    · have d2 : (h.Q.length : Int) ≤ 100 := by omega
      by_cases h3 : chk h = 0
      · have H3 := Lib.hid (show vF = true from by rw [← HV.out]; unfold fewK; rw [decide_eq_true_eq]; exact ⟨h1, h2, h3⟩)
        have HC := Lib.hid h3
        clear h1 h2 h3
        go_wp2_with fail
        refine (refcheckN h.k h.s h.z h.zc h.ct (.int .i64 h.sm) A B c d h.P h.Q _ z0 z1 HK0.out.1 HK0.out.2 0 HC.out).mono ?_
        rintro e w2 ⟨rfl, hb2⟩
        have HB2 := Lib.hid (HB0.out.trans (hb2.mono HB0.out.size))
        clear hb2 x0 x1 x2 x3 x4 x5 x6 x7 lx
        go_wp2_with fail
        go_ret
        exact ⟨ret_bool H3.out.symm, HB2.out⟩
      · have H3 := Lib.hid (show vF = false from by rw [← HV.out]; unfold fewK; rw [decide_eq_false_iff_not]; exact fun h => h3 h.2.2)
        obtain ⟨E, hE⟩ : ∃ E, chk h = E := ⟨_, rfl⟩
        have hE0 : (E == 0) = false := by rw [← hE]; simpa using h3
        have HC := Lib.hid hE
        clear h1 h2 h3 hE
        go_wp2_with fail
        refine (refcheckN h.k h.s h.z h.zc h.ct (.int .i64 h.sm) A B c d h.P h.Q _ z0 z1 HK0.out.1 HK0.out.2 E HC.out).mono ?_
        rintro e w2 ⟨rfl, hb2⟩
        have HB2 := Lib.hid (HB0.out.trans (hb2.mono HB0.out.size))
        clear hb2 x0 x1 x2 x3 x4 x5 x6 x7 lx
        go_wp2_with fail
        go_ret
        exact ⟨ret_bool H3.out.symm, HB2.out⟩
    · have d2 : ¬ (h.Q.length : Int) ≤ 100 := by omega
      have H3 := Lib.hid (show vF = false from by rw [← HV.out]; unfold fewK; rw [decide_eq_false_iff_not]; exact fun h => h2 h.2.1)
      clear h1 h2
      go_wp2_with fail
      go_ret
      exact ⟨ret_bool H3.out.symm, HB0.out⟩
  · have d1 : ¬ (h.P.length : Int) ≤ 100 := by omega
    have H3 := Lib.hid (show vF = false from by rw [← HV.out]; unfold fewK; rw [decide_eq_false_iff_not]; exact fun h => h1 h.1)
    clear h1
    go_wp2_with fail
    go_ret
    exact ⟨ret_bool H3.out.symm, HB0.out⟩
end Go.Proofs.Ytbibhjcmdehdbaa
