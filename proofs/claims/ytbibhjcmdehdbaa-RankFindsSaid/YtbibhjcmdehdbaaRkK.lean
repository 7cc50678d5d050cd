/- What the laws of rank begin with: their example, and which histograms they are about. -/
import Derived.Test.YtbibhjcmdehdbaaRkJ
import Derived.Test.YtbibhjcmdehdbaaHsR
import Derived.Test.YtbibhjcmdehdbaaMdH
namespace Go.Proofs.Ytbibhjcmdehdbaa
open Go.RowKit Go.Sort
set_option linter.unusedVariables false

deriving instance DecidableEq for Cel
def exK : HV := ⟨0, 0, -524288, 0, 4, 0, [(1, 2), (3, 2)], []⟩
theorem exk_mk : mkE ⟨0, 0, -524288, 0, 0, 0, [], []⟩ [(1, 2), (3, 2)] [] = 0 := by decide +kernel
theorem exk_mkO : mkO ⟨0, 0, -524288, 0, 0, 0, [], []⟩ [(1, 2), (3, 2)] [] = exK := by
  unfold mkO
  rw [exk_mk, if_pos rfl]
  refine HV.eq rfl rfl rfl rfl ?_ rfl ?_ rfl
  · decide +kernel
  · decide +kernel
theorem exk_ok : Ok exK := Ok.of (by decide +kernel) (by decide) (by unfold inI64; decide) (fun p hp => by simp [exK] at hp; rcases hp with rfl | rfl <;> decide) (fun p hp => by simp [exK] at hp)
theorem exk_a : quE exK 1 2 = 0 ∧ quC exK 1 2 = ⟨1, 0, 1, 2⟩ := by decide +kernel
theorem exk_b : quE exK 501 1000 = 0 ∧ quC exK 501 1000 = ⟨1, 0, 3, 2⟩ := by decide +kernel
set_option maxHeartbeats 2000000 in
set_option maxRecDepth 100000 in
theorem awake08 (w : World) : Calls Try.prog 25 #[] w fun e w' => e = .returned (.bool true) ∧ Below w.heap.size w w' := by
  go_enter Try.func25, Try.ntmps25
  go_wp2_with fail
  refine (empty_any 0 0 _).mono ?_
  rintro e w1 ⟨rfl, hb1⟩
  have HB1 := Lib.hid hb1
  clear hb1
  go_wp2_with fail
  refine (make_hv ⟨0, 0, -524288, 0, 0, 0, [], []⟩ 0 none none (some ⟨w1.heap.size, 0, none⟩) none 0 0 0 0 2 0 [(1, 2), (3, 2)] [] _ ⟨by decide, by decide⟩ (by decide) (by decide) ?_ (Bk.nil _ _) (by simp) (by simp)).mono ?_
  · refine ⟨by simp, wbL (by decide), .inr ⟨w1.heap.size, 0, rfl, fun j p hj => ?_⟩⟩
    match j, hj with
    | 0, hj => simp at hj; subst hj; simp [go_sem]
    | 1, hj => simp at hj; subst hj; simp [go_sem]
  · intro e w2 hR
    obtain ⟨A1, B1, c1, d1, rfl, hA, hB, hb2, _, _⟩ := hR.as exk_mkO exk_mk
    have HA := Lib.hid (And.intro hA hB)
    have HB2 := Lib.hid (HB1.out.trans (((Below.refl _ _).alloc (Nat.le_refl _) _).trans (hb2.mono (by simp)) |>.mono HB1.out.size))
    clear hR hA hB hb2
    unfold exK at HA
    simp only [hvA, exK]
    go_wp2_with fail
    have hw : Below w2.heap.size w2 (w2.alloc (.cells #[.int .i64 0, .int .i64 0, .int .i64 (-524288), .int .u64 0, .int .u64 4, .int .i64 0, .slice A1 2 c1, .slice B1 0 d1] 25)) := (Below.refl _ _).alloc (Nat.le_refl _) _
    refine (quant_any exK A1 B1 c1 d1 1 2 _ (HA.out.1.below hw) (HA.out.2.below hw) exk_ok (by decide) (by decide) (by decide) (by decide)).mono ?_
    rintro e w3 ⟨rfl, hb3⟩
    rw [exk_a.1, exk_a.2]
    have HX3 := Lib.hid ((Rb.new w2 w2.heap.size rfl 25 #[.int .i64 0, .int .i64 0, .int .i64 (-524288), .int .u64 0, .int .u64 4, .int .i64 0, .slice A1 2 c1, .slice B1 0 d1]).below hb3)
    have HB3 := Lib.hid (HB2.out.trans ((hw.trans (hb3.mono (by simp))).mono HB2.out.size))
    have HA3 := Lib.hid (And.intro ((HA.out.1.below hw).below hb3) ((HA.out.2.below hw).below hb3))
    clear hw hb3 HA HB2
    obtain ⟨x0, x1, x2, x3, x4, x5, x6, x7⟩ := HX3.out.eight
    have lx := HX3.out.lt
    go_wp2_with fail
    have hw : Below w3.heap.size w3 (w3.alloc (.cells #[.int .i64 1, .int .i64 0, .int .i64 1] 48)) := (Below.refl _ _).alloc (Nat.le_refl _) _
    refine (quant_any exK A1 B1 c1 d1 501 1000 _ (HA3.out.1.below hw) (HA3.out.2.below hw) exk_ok (by decide) (by decide) (by decide) (by decide)).mono ?_
    rintro e w4 ⟨rfl, hb4⟩
    rw [exk_b.1, exk_b.2]
    have HX4 := Lib.hid ((Rb.new w3 w3.heap.size rfl 48 #[.int .i64 1, .int .i64 0, .int .i64 1]).below hb4)
    have HB4 := Lib.hid (HB3.out.trans ((hw.trans (hb4.mono (by simp))).mono HB3.out.size))
    clear hw hb4 HA3 HB3 HX3 x0 x1 x2 x3 x4 x5 x6 x7 lx
    obtain ⟨k0, k1, k2, k3, k4, k5⟩ := HX4.out.three
    have lk := HX4.out.lt
    go_wp2_with fail
    go_ret
    exact ⟨rfl, HB4.out.alloc HB4.out.size _⟩
end Go.Proofs.Ytbibhjcmdehdbaa
