/- The law RankBelow: its walk. -/
import Derived.Test.YtbibhjcmdehdbaaRkL
import Derived.ChangeKeysEq
import Derived.Laws.StructEq
namespace Go.Proofs.Ytbibhjcmdehdbaa
open Go.RowKit Go.Sort
set_option linter.unusedVariables false

theorem eqA3 (a b c : Int) (w : World) : (Op.equalIn 10000 65 (.agg #[.int .u64 a, .int .u64 b, .int .u64 c]) (.agg #[.int .u64 a, .int .u64 b, .int .u64 c])).run Try.prog w = .ok true w := by
  have u2 := Try.underlying22
  have a2 := Try.isAgg22
  have z2 := Try.sizeOf22
  have hc : Try.prog.cellsOf 22 = 1 := by kernel_rfl
  obtain ⟨i, hi⟩ : ∃ i, Try.prog.info? 22 = some i := Option.isSome_iff_exists.1 (by kernel_rfl)
  have hu : Try.prog.underlying 65 = some (.array 3 22) := by kernel_rfl
  rw [show (10000 : Nat) = 9999 + 1 from rfl, run_equalIn_array w 9999 _ _ hu hi, hc, show List.range 3 = [0, 1, 2] from rfl]
  simp only [Op.eqItems]
  go_simp
set_option maxHeartbeats 2000000 in
set_option maxRecDepth 100000 in
theorem rankBelow_walk (h : HV) (A B : Option Addr) (c d : Nat) (pd pu : Int) (w : World) (hP : Bk w A h.P) (hQ : Bk w B h.Q) (z0 : 0 ≤ h.zc) (z1 : h.zc ≤ 18446744073709551615) (hsm : inI64 h.sm) :
    Calls Try.prog 7 #[.agg #[.int .i64 h.k, .int .i64 h.s, .int .i64 h.z, .int .u64 h.zc, .int .u64 h.ct, .int .i64 h.sm, .slice A h.P.length c, .slice B h.Q.length d], .agg #[.int .i64 pd, .int .i64 pu]] w fun e w' => e = .returned (.bool true) ∧ Below w.heap.size w w' := by
  have hb0 : Below w.heap.size w ((w.alloc (.cells #[.int .i64 h.k, .int .i64 h.s, .int .i64 h.z, .int .u64 h.zc, .int .u64 h.ct, .int .i64 h.sm, .slice A h.P.length c, .slice B h.Q.length d] 25)).alloc (.cells #[.int .i64 pd, .int .i64 pu] 60)) := ((Below.refl _ _).alloc (Nat.le_refl _) _).alloc (by simp) _
  have HB0 := Lib.hid hb0
  have HX0 := Lib.hid (And.intro ((Rb.new w w.heap.size rfl 25 #[.int .i64 h.k, .int .i64 h.s, .int .i64 h.z, .int .u64 h.zc, .int .u64 h.ct, .int .i64 h.sm, .slice A h.P.length c, .slice B h.Q.length d]).alloc (.cells #[.int .i64 pd, .int .i64 pu] 60)) (Rb.new (w.alloc (.cells #[.int .i64 h.k, .int .i64 h.s, .int .i64 h.z, .int .u64 h.zc, .int .u64 h.ct, .int .i64 h.sm, .slice A h.P.length c, .slice B h.Q.length d] 25)) (w.heap.size + 1) (by simp) 60 #[.int .i64 pd, .int .i64 pu]))
  have HK0 := Lib.hid (And.intro (hP.below hb0) (hQ.below hb0))
  have HW := Lib.hid (And.intro hP.2.1 hQ.2.1)
  have HZ := Lib.hid (And.intro (And.intro z0 z1) hsm)
  clear hP hQ hb0 z0 z1 hsm
  go_enter Try.func7, Try.ntmps7
  go_upto_region 1 with fail
  generalize ((w.alloc (.cells #[.int .i64 h.k, .int .i64 h.s, .int .i64 h.z, .int .u64 h.zc, .int .u64 h.ct, .int .i64 h.sm, .slice A h.P.length c, .slice B h.Q.length d] 25)).alloc (.cells #[.int .i64 pd, .int .i64 pu] 60)) = w0 at *
  obtain ⟨x0, x1, x2, x3, x4, x5, x6, x7⟩ := HX0.out.1.eight
  have lx := HX0.out.1.lt
  go_wp2_with fail
  refine (right08 h A B c d w0 HK0.out.1 HK0.out.2 HZ.out.1.1 HZ.out.1.2).mono ?_
  rintro e w1 ⟨rfl, hb1⟩
  have HX1 := Lib.hid (And.intro (HX0.out.1.below hb1) (HX0.out.2.below hb1))
  have HB1 := Lib.hid (HB0.out.trans (hb1.mono HB0.out.size))
  have HK1 := Lib.hid (And.intro (HK0.out.1.below hb1) (HK0.out.2.below hb1))
  clear hb1 HX0 HB0 HK0 x0 x1 x2 x3 x4 x5 x6 x7 lx
  rcases hf : fewK h with _ | _
  · clear hf
    go_wp2_with fail
    refine (awake08 w1).mono ?_
    rintro e w2 ⟨rfl, hb2⟩
    have HB2 := Lib.hid (HB1.out.trans (hb2.mono HB1.out.size))
    clear hb2
    go_wp2_with fail
    go_ret
    exact ⟨rfl, HB2.out⟩
  · have HO := Lib.hid (fewK_ok hf HZ.out.1.1 HZ.out.2 HW.out.1 HW.out.2)
    clear hf
    obtain ⟨x0, x1, x2, x3, x4, x5, x6, x7⟩ := HX1.out.1.eight
    have lx := HX1.out.1.lt
    obtain ⟨p0, p1, p2, p3⟩ := HX1.out.2.two
    have lp := HX1.out.2.lt
    go_wp2_with fail
    refine (below_any h A B c d pd pu w1 HK1.out.1 HK1.out.2 HO.out).mono ?_
    rintro e w2 ⟨rfl, hb2⟩
    obtain ⟨vX, hvX⟩ : ∃ v, belX h pd pu = v := ⟨_, rfl⟩
    obtain ⟨vM, hvM⟩ : ∃ v, belM h pd pu = v := ⟨_, rfl⟩
    obtain ⟨vA, hvA_⟩ : ∃ v, belA h pd pu = v := ⟨_, rfl⟩
    obtain ⟨vE, hvE⟩ : ∃ v, belE h pd pu = v := ⟨_, rfl⟩
    rw [hvX, hvM, hvA_, hvE]
    have HV := Lib.hid (And.intro hvX (And.intro hvM (And.intro hvA_ hvE)))
    have HX2 := Lib.hid (And.intro (HX1.out.1.below hb2) (HX1.out.2.below hb2))
    have HB2 := Lib.hid (HB1.out.trans (hb2.mono HB1.out.size))
    have HK2 := Lib.hid (And.intro (HK1.out.1.below hb2) (HK1.out.2.below hb2))
    clear hb2 HX1 HB1 HK1 x0 x1 x2 x3 x4 x5 x6 x7 lx p0 p1 p2 p3 lp hvX hvM hvA_ hvE
    obtain ⟨x0, x1, x2, x3, x4, x5, x6, x7⟩ := HX2.out.1.eight
    have lx := HX2.out.1.lt
    obtain ⟨p0, p1, p2, p3⟩ := HX2.out.2.two
    have lp := HX2.out.2.lt
    go_wp2_with fail
    have hb3 : Below w2.heap.size w2 (w2.alloc (.cells #[.int .u64 vX, .int .u64 vM, .int .u64 vA] 62)) := (Below.refl _ _).alloc (Nat.le_refl _) _
    obtain ⟨gp, hgp⟩ : ∃ g, w2.heap.size = g := ⟨_, rfl⟩
    have HR3 := Lib.hid (Rb.new w2 gp hgp 62 #[.int .u64 vX, .int .u64 vM, .int .u64 vA])
    have HB3 := Lib.hid (HB2.out.trans (hb3.mono HB2.out.size))
    have HK3 := Lib.hid (And.intro (HK2.out.1.below hb3) (HK2.out.2.below hb3))
    rw [hgp]
    clear hb3 hgp HX2 HB2 HK2 x0 x1 x2 x3 x4 x5 x6 x7 lx p0 p1 p2 p3 lp
    generalize w2.alloc (.cells #[.int .u64 vX, .int .u64 vM, .int .u64 vA] 62) = w3 at *
    refine (refbelow_any h A B c d pd pu w3 HK3.out.1 HK3.out.2 HO.out).mono ?_
    rintro e w4 ⟨rfl, hb4⟩
    rw [HV.out.1, HV.out.2.1, HV.out.2.2.1, HV.out.2.2.2]
    have HR4 := Lib.hid (HR3.out.below hb4)
    have HB4 := Lib.hid (HB3.out.trans (hb4.mono HB3.out.size))
    clear hb4 HR3 HB3 HK3
    go_wp2_with fail
    have hb5 : Below w4.heap.size w4 (w4.alloc (.cells #[.int .u64 vX, .int .u64 vM, .int .u64 vA] 65)) := (Below.refl _ _).alloc (Nat.le_refl _) _
    obtain ⟨gb, hgb⟩ : ∃ g, w4.heap.size = g := ⟨_, rfl⟩
    have HS5 := Lib.hid (Rb.new w4 gb hgb 65 #[.int .u64 vX, .int .u64 vM, .int .u64 vA])
    have HR5 := Lib.hid (HR4.out.below hb5)
    have HB5 := Lib.hid (HB4.out.trans (hb5.mono HB4.out.size))
    rw [hgb]
    clear hb5 hgb HR4 HB4
    generalize w4.alloc (.cells #[.int .u64 vX, .int .u64 vM, .int .u64 vA] 65) = w5 at *
    refine (awake08 w5).mono ?_
    rintro e w6 ⟨rfl, hb6⟩
    have HB6 := Lib.hid (HB5.out.trans (hb6.mono HB5.out.size))
    obtain ⟨a0, a1, a2, _, _, _⟩ := (HR5.out.below hb6).three
    obtain ⟨b0, b1, b2, _, _, _⟩ := (HS5.out.below hb6).three
    have la := (HR5.out.below hb6).lt
    have lb := (HS5.out.below hb6).lt
    have heq := eqA3 vX vM vA w6
    clear hb6 HR5 HS5 HB5
    go_wp2_with fail
    go_ret
    exact ⟨rfl, HB6.out⟩
end Go.Proofs.Ytbibhjcmdehdbaa
