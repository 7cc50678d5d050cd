/- The law MeldKeeps, for every input. -/
import Derived.Test.YtofaciagkkipbaaMdS
import Derived.Test.YtofaciagkkipbaaMdR
/-! The law MeldKeeps: its walk. -/
namespace Go.Proofs.Ytofaciagkkipbaa
open Go.RowKit Go.Sort Go.Maps
set_option linter.unusedVariables false

/-- one histogram, as the slice of a variadic call -/
theorem Hl.one {w : World} {g : Nat} {A B : Option Addr} {c d : Nat} {h : HV} (hb : Box w g (.int .i64 h.k) (.int .i64 h.s) (.int .i64 h.z) (.int .u64 h.zc) (.int .u64 h.ct) (.int .i64 h.sm) (.slice A h.P.length c) (.slice B h.Q.length d)) (hA : Bk w A h.P) (hB : Bk w B h.Q) (z0 : 0 ≤ h.zc) (z1 : h.zc ≤ 18446744073709551615) : Hl w (some ⟨g, 0, none⟩) [h] := by
  refine ⟨by simp, .inr ⟨g, 0, rfl, fun j x hj => ?_⟩⟩
  match j, hj with
  | 0, hj =>
    simp at hj
    subst hj
    obtain ⟨a, b, c', d', e, f, g', i⟩ := hb.cells
    exact ⟨A, B, c, d, ⟨a, b, c', d', e, f, g', i⟩, hA, hB, z0, z1⟩
theorem down_form {k s z zc ct sm : Int} {P Q : List (Int × Int)} (o : Ok ⟨k, s, z, zc, ct, sm, P, Q⟩) {t : Int} (ht : rightB t = true) (hle : t ≤ s) : ∃ dz dzc dP dQ, downF ⟨k, s, z, zc, ct, sm, P, Q⟩ t = ⟨k, t, dz, dzc, ct, sm, dP, dQ⟩ ∧ z ≤ dz ∧ Ok ⟨k, t, dz, dzc, ct, sm, dP, dQ⟩ := by
  obtain ⟨a, b, c⟩ := down_same ⟨k, s, z, zc, ct, sm, P, Q⟩ t
  have e := down_s ⟨k, s, z, zc, ct, sm, P, Q⟩ t
  have g := down_ge o ht
  have ok := down_ok o ht hle
  generalize downF ⟨k, s, z, zc, ct, sm, P, Q⟩ t = d at *
  obtain ⟨dk, ds, dz, dzc, dct, dsm, dP, dQ⟩ := d
  simp only at a b c e g
  subst a b c e
  exact ⟨dz, dzc, dP, dQ, rfl, g, ok⟩
theorem toV_self (s i : Int) : toV s s i = i := by
  unfold toV
  rw [Int.sub_self]
  exact upv_zero i
theorem toV_toV {s m t : Int} (h1 : m ≤ s) (h2 : t ≤ m) (i : Int) : toV m t (toV s m i) = toV s t i := by
  unfold toV
  rw [upv_upv]
  congr 1
  omega
theorem mv_self (s : Int) (l : List (Int × Int)) : mv s s l = l := by
  unfold mv
  conv => rhs; rw [← List.map_id l]
  exact List.map_congr_left fun p _ => by rw [toV_self]; rfl
theorem coarse_coarse {s m t : Int} (h1 : m ≤ s) (h2 : t ≤ m) {l : List (Int × Int)} (hl : Nn l) : tidy (mv m t (tidy (mv s m l))) = tidy (mv s t l) := by
  have n1 : Nn (mv m t (tidy (mv s m l))) := ((tidy_pos (hl.map _)).nn).map _
  refine tidy_eq n1 (hl.map _) fun i => ?_
  rw [cw_at, cw_at]
  show cw (fun j => j == i) ((tidy (mv s m l)).map fun p => (toV m t p.1, p.2)) = cw (fun j => j == i) (l.map fun p => (toV s t p.1, p.2))
  rw [cw_map, cw_map, cw_tidy]
  show cw (fun j => toV m t j == i) (l.map fun p => (toV s m p.1, p.2)) = _
  rw [cw_map]
  exact cw_congr fun p _ => by rw [toV_toV h1 h2]
theorem down_nozero {h : HV} (o : Ok h) (hz : h.z = -524288) {m : Int} (hm : rightB m = true) (hle : m ≤ h.s) : downF h m = coarseH h m := by
  unfold downF
  by_cases e : m = h.s
  · rw [if_pos e]
    exact HV.eq rfl e.symm rfl rfl rfl rfl (by show h.P = tidy (mv h.s m h.P); rw [e, mv_self, tidy_self o.aP o.pP]) (by show h.Q = tidy (mv h.s m h.Q); rw [e, mv_self, tidy_self o.aQ o.pQ])
  · rw [if_neg e]
    obtain ⟨g, p1, p2, l1, l2⟩ := coarse_parts o hm hle
    have low : ∀ i, inB m i = true → (-524288 : Int) ≤ un m (i - 1) := fun i hi => by
      have h1 := (in_iff hm).1 hi
      have h2 := uw_bd hm
      rw [un_pred]
      omega
    have ok : Ok (coarseH h m) := { g with z := by { show zr h.z; exact o.z }, aP := tidy_asc _, aQ := tidy_asc _, pP := p1, pQ := p2, lP := l1, lQ := l2, zP := fun p hp => by { show h.z ≤ _; rw [hz]; exact low p.1 (g.iP p hp) }, zQ := fun p hp => by { show h.z ≤ _; rw [hz]; exact low p.1 (g.iQ p hp) } }
    exact sw_self ok
theorem two_steps {h : HV} (o : Ok h) (hz : h.z = -524288) {m t : Int} (hm : rightB m = true) (h1 : m ≤ h.s) (ht : rightB t = true) (h2 : t ≤ m) : downF (downF h m) t = downF h t := by
  have om := down_ok o hm h1
  have e1 := down_nozero o hz hm h1
  have e2 := down_nozero o hz ht (by omega : t ≤ h.s)
  have e3 := down_nozero om (by rw [e1]; exact hz) ht (by rw [e1]; exact h2)
  rw [e3, e2, e1]
  exact HV.eq rfl rfl rfl rfl rfl rfl (coarse_coarse h1 h2 o.nP) (coarse_coarse h1 h2 o.nQ)
theorem widen_form {k s z zc ct sm : Int} {P Q : List (Int × Int)} (o : Ok ⟨k, s, z, zc, ct, sm, P, Q⟩) {u : Int} (hu : zr u) : ∃ rz rzc rP rQ, swF ⟨k, s, z, zc, ct, sm, P, Q⟩ u = ⟨k, s, rz, rzc, ct, sm, rP, rQ⟩ ∧ u ≤ rz ∧ zc ≤ rzc ∧ Ok ⟨k, s, rz, rzc, ct, sm, rP, rQ⟩ := by
  have g := sw_ge o u
  have ok := sw_ok o hu
  have n1 : 0 ≤ goneN s (outF s (P ++ Q) u) P := o.nP.cw _
  have n2 : 0 ≤ goneN s (outF s (P ++ Q) u) Q := o.nQ.cw _
  exact ⟨_, _, _, _, rfl, g, by show zc ≤ zc + goneN s (outF s (P ++ Q) u) P + goneN s (outF s (P ++ Q) u) Q; omega, ok⟩
theorem sameF_self (k s z zc ct sm : Int) (P Q : List (Int × Int)) : sameF k s z zc ct sm k s z zc ct sm P Q P Q = true := by
  rw [sameF_yes ⟨rfl, rfl, rfl, rfl, rfl, rfl⟩]
  unfold eqL
  simp
set_option maxHeartbeats 4000000 in
set_option maxRecDepth 100000 in
theorem keeps_main (k s z zc ct sm : Int) (A B : Option Addr) (c d : Nat) (P Q : List (Int × Int)) (mid t u : Int) (w : World) (z0 : 0 ≤ zc) (z1 : zc ≤ 18446744073709551615) (hP : Bk w A P) (hQ : Bk w B Q) (hr : fewB ⟨k, s, z, zc, ct, sm, P, Q⟩ = true) (o : Ok ⟨k, s, z, zc, ct, sm, P, Q⟩)
    (ht : rightB t = true) (hle : t ≤ s) :
    Calls Try.prog 6 #[.agg #[.int .i64 k, .int .i64 s, .int .i64 z, .int .u64 zc, .int .u64 ct, .int .i64 sm, .slice A P.length c, .slice B Q.length d], .int .i64 mid, .int .i64 t, .int .i64 u] w fun e w' => e = .returned (.bool true) ∧ Below w.heap.size w w' := by
  have hb0 : Below w.heap.size w (w.alloc (.cells #[.int .i64 k, .int .i64 s, .int .i64 z, .int .u64 zc, .int .u64 ct, .int .i64 sm, .slice A P.length c, .slice B Q.length d] 25)) := (Below.refl _ _).alloc (Nat.le_refl _) _
  have HX := Lib.hid (Box.new w (.int .i64 k) (.int .i64 s) (.int .i64 z) (.int .u64 zc) (.int .u64 ct) (.int .i64 sm) (.slice A P.length c) (.slice B Q.length d))
  have HP := Lib.hid (And.intro (hP.below hb0) (hQ.below hb0))
  have HB0 := Lib.hid hb0
  have HO := Lib.hid o
  have HF := Lib.hid hr
  have HZ := Lib.hid (And.intro z0 z1)
  have HT := Lib.hid (And.intro ht hle)
  clear hP hQ hb0 o hr z0 z1 ht hle
  go_enter Try.func6, Try.ntmps6
  go_wp2_with fail
  have hb1 : Below w.heap.size w ((w.alloc (.cells #[.int .i64 k, .int .i64 s, .int .i64 z, .int .u64 zc, .int .u64 ct, .int .i64 sm, .slice A P.length c, .slice B Q.length d] 25)).alloc (.cells #[.int .i64 k, .int .i64 s, .int .i64 z, .int .u64 zc, .int .u64 ct, .int .i64 sm, .slice A P.length c, .slice B Q.length d] 25)) := HB0.out.alloc HB0.out.size _
  have HX1 := Lib.hid (And.intro (HX.out.alloc (.cells #[.int .i64 k, .int .i64 s, .int .i64 z, .int .u64 zc, .int .u64 ct, .int .i64 sm, .slice A P.length c, .slice B Q.length d] 25)) (Box.newAt (w.alloc (.cells #[.int .i64 k, .int .i64 s, .int .i64 z, .int .u64 zc, .int .u64 ct, .int .i64 sm, .slice A P.length c, .slice B Q.length d] 25)) (w.heap.size + 1) (by simp) (.int .i64 k) (.int .i64 s) (.int .i64 z) (.int .u64 zc) (.int .u64 ct) (.int .i64 sm) (.slice A P.length c) (.slice B Q.length d)))
  have HP1 := Lib.hid (And.intro (HP.out.1.below ((Below.refl _ _).alloc (Nat.le_refl _) (.cells #[.int .i64 k, .int .i64 s, .int .i64 z, .int .u64 zc, .int .u64 ct, .int .i64 sm, .slice A P.length c, .slice B Q.length d] 25))) (HP.out.2.below ((Below.refl _ _).alloc (Nat.le_refl _) (.cells #[.int .i64 k, .int .i64 s, .int .i64 z, .int .u64 zc, .int .u64 ct, .int .i64 sm, .slice A P.length c, .slice B Q.length d] 25))))
  have HB1 := Lib.hid hb1
  clear hb1 HX HP HB0
  generalize ((w.alloc (.cells #[.int .i64 k, .int .i64 s, .int .i64 z, .int .u64 zc, .int .u64 ct, .int .i64 sm, .slice A P.length c, .slice B Q.length d] 25)).alloc (.cells #[.int .i64 k, .int .i64 s, .int .i64 z, .int .u64 zc, .int .u64 ct, .int .i64 sm, .slice A P.length c, .slice B Q.length d] 25)) = w0 at *
  refine (lright_any (some ⟨w.heap.size + 1, 0, none⟩) 1 1 [⟨k, s, z, zc, ct, sm, P, Q⟩] w0 rfl (Hl.one HX1.out.2 HP1.out.1 HP1.out.2 HZ.out.1 HZ.out.2)).mono ?_
  rintro e w1 ⟨rfl, hb2⟩
  have hRR : rightF [⟨k, s, z, zc, ct, sm, P, Q⟩] = true := by unfold rightF; rw [List.all_cons, HF.out]; rfl
  rw [hRR]
  have HX2 := Lib.hid (HX1.out.1.below hb2)
  have HP2 := Lib.hid (And.intro (HP1.out.1.below hb2) (HP1.out.2.below hb2))
  have HB2 := Lib.hid (HB1.out.trans (hb2.mono HB1.out.size))
  obtain ⟨x0, x1, x2, x3, x4, x5, x6, x7⟩ := HX2.out.cells
  have e0 := HX2.out.lt
  clear hb2 hRR HX1 HP1 HB1
  go_wp2_with fail
  obtain ⟨dz, dzc, dP, dQ, hd, hge, od⟩ := down_form HO.out HT.out.1 HT.out.2
  have HD := Lib.hid hd
  have HOD := Lib.hid od
  have hdz : decide (dz < z) = false := by simpa using hge
  clear hd hge od
  refine (downC ⟨k, s, z, zc, ct, sm, P, Q⟩ t A B c d w1 HP2.out.1 HP2.out.2 HO.out HT.out.1 HT.out.2).mono ?_
  intro e w2 hR
  obtain ⟨A2, B2, c2, d2, rfl, hA2, hB2, hb3, _, _⟩ := hR.as HD.out rfl
  have HX3 := Lib.hid (HX2.out.below hb3)
  have HB3 := Lib.hid (HB2.out.trans (hb3.mono HB2.out.size))
  have HA3 := Lib.hid (And.intro (And.intro (HP2.out.1.below hb3) (HP2.out.2.below hb3)) (And.intro hA2 hB2))
  clear x0 x1 x2 x3 x4 x5 x6 x7 e0 hR hA2 hB2 hb3 HX2 HP2 HB2
  obtain ⟨x0, x1, x2, x3, x4, x5, x6, x7⟩ := HX3.out.cells
  have e0 := HX3.out.lt
  have hvv : ∀ v : Int, (v != v) = false := by simp
  simp only [hvA]
  go_wp2_with fail
  have hw : Below w2.heap.size w2 (w2.alloc (.cells #[.int .i64 k, .int .i64 t, .int .i64 dz, .int .u64 dzc, .int .u64 ct, .int .i64 sm, .slice A2 dP.length c2, .slice B2 dQ.length d2] 25)) := (Below.refl _ _).alloc (Nat.le_refl _) _
  have HX4 := Lib.hid (And.intro (HX3.out.below hw) (Box.new w2 (.int .i64 k) (.int .i64 t) (.int .i64 dz) (.int .u64 dzc) (.int .u64 ct) (.int .i64 sm) (.slice A2 dP.length c2) (.slice B2 dQ.length d2)))
  have HB4 := Lib.hid (HB3.out.trans (hw.mono HB3.out.size))
  have HA4 := Lib.hid (And.intro (And.intro (HA3.out.1.1.below hw) (HA3.out.1.2.below hw)) (And.intro (HA3.out.2.1.below hw) (HA3.out.2.2.below hw)))
  clear x0 x1 x2 x3 x4 x5 x6 x7 e0 hw HX3 HB3 HA3
  obtain ⟨gd, hgd⟩ : ∃ g, w2.heap.size = g := ⟨_, rfl⟩
  rw [hgd] at HX4 ⊢
  generalize w2.alloc (.cells #[.int .i64 k, .int .i64 t, .int .i64 dz, .int .u64 dzc, .int .u64 ct, .int .i64 sm, .slice A2 dP.length c2, .slice B2 dQ.length d2] 25) = w3 at *
  refine (checkN k t dz dzc ct (.int .i64 sm) A2 B2 c2 d2 dP dQ w3 HOD.out.zc HOD.out.toGood.z1 HA4.out.2.1 HA4.out.2.2 0 HOD.out.chk).mono ?_
  rintro e w4 ⟨rfl, hb5⟩
  have HX5 := Lib.hid (And.intro (HX4.out.1.below hb5) (HX4.out.2.below hb5))
  have HB5 := Lib.hid (HB4.out.trans (hb5.mono HB4.out.size))
  have HA5 := Lib.hid (And.intro (And.intro (HA4.out.1.1.below hb5) (HA4.out.1.2.below hb5)) (And.intro (HA4.out.2.1.below hb5) (HA4.out.2.2.below hb5)))
  obtain ⟨x0, x1, x2, x3, x4, x5, x6, x7⟩ := HX5.out.1.cells
  obtain ⟨y0, y1, y2, y3, y4, y5, y6, y7⟩ := HX5.out.2.cells
  have e0 := HX5.out.1.lt
  have e1 := HX5.out.2.lt
  clear hb5 HX4 HB4 HA4 hgd
  go_wp2_with fail
  rcases downE_cases s mid with ⟨em, hm1, hm2⟩ | ⟨em, hmn⟩
  · obtain ⟨mz, mzc, mP, mQ, hmf, hmge, om⟩ := down_form HO.out hm1 hm2
    have HM := Lib.hid (And.intro hmf om)
    have HM1 := Lib.hid (And.intro hm1 hm2)
    clear hmf hmge om hm1 hm2 em
    refine (downC ⟨k, s, z, zc, ct, sm, P, Q⟩ mid A B c d w4 HA5.out.1.1 HA5.out.1.2 HO.out HM1.out.1 HM1.out.2).mono ?_
    intro e w5 hR
    obtain ⟨A3, B3, c3, d3, rfl, hA3, hB3, hb6, _, _⟩ := hR.as HM.out.1 rfl
    have HX6 := Lib.hid (And.intro (HX5.out.1.below hb6) (HX5.out.2.below hb6))
    have HB6 := Lib.hid (HB5.out.trans (hb6.mono HB5.out.size))
    have HA6 := Lib.hid (And.intro (And.intro (And.intro (HA5.out.1.1.below hb6) (HA5.out.1.2.below hb6)) (And.intro (HA5.out.2.1.below hb6) (HA5.out.2.2.below hb6))) (And.intro hA3 hB3))
    clear x0 x1 x2 x3 x4 x5 x6 x7 y0 y1 y2 y3 y4 y5 y6 y7 e0 e1 hR hA3 hB3 hb6 HX5 HB5 HA5
    obtain ⟨x0, x1, x2, x3, x4, x5, x6, x7⟩ := HX6.out.1.cells
    obtain ⟨y0, y1, y2, y3, y4, y5, y6, y7⟩ := HX6.out.2.cells
    have e0 := HX6.out.1.lt
    have e1 := HX6.out.2.lt
    simp only [hvA]
    by_cases q1 : t ≤ mid
    · have d1 : decide (t ≤ mid) = true := by simpa using q1
      by_cases q2 : z = -524288
      · have d2 : (z == -524288) = true := by simpa using q2
        have HQ := Lib.hid (And.intro q1 q2)
        clear q1 q2
        go_wp2_with fail
        have hwm : Below w5.heap.size w5 (w5.alloc (.cells #[.int .i64 k, .int .i64 mid, .int .i64 mz, .int .u64 mzc, .int .u64 ct, .int .i64 sm, .slice A3 mP.length c3, .slice B3 mQ.length d3] 25)) := (Below.refl _ _).alloc (Nat.le_refl _) _
        have HX7 := Lib.hid (And.intro (HX6.out.1.below hwm) (HX6.out.2.below hwm))
        have HB7 := Lib.hid (HB6.out.trans (hwm.mono HB6.out.size))
        have HA7 := Lib.hid (And.intro (And.intro (And.intro (HA6.out.1.1.1.below hwm) (HA6.out.1.1.2.below hwm)) (And.intro (HA6.out.1.2.1.below hwm) (HA6.out.1.2.2.below hwm))) (And.intro (HA6.out.2.1.below hwm) (HA6.out.2.2.below hwm)))
        clear x0 x1 x2 x3 x4 x5 x6 x7 e0 y0 y1 y2 y3 y4 y5 y6 y7 e1 hwm HX6 HB6 HA6
        generalize w5.alloc (.cells #[.int .i64 k, .int .i64 mid, .int .i64 mz, .int .u64 mzc, .int .u64 ct, .int .i64 sm, .slice A3 mP.length c3, .slice B3 mQ.length d3] 25) = w6 at *
        have HTS := Lib.hid (show downF ⟨k, mid, mz, mzc, ct, sm, mP, mQ⟩ t = ⟨k, t, dz, dzc, ct, sm, dP, dQ⟩ from by rw [← HM.out.1, two_steps HO.out HQ.out.2 HM1.out.1 HM1.out.2 HT.out.1 HQ.out.1]; exact HD.out)
        refine (downC ⟨k, mid, mz, mzc, ct, sm, mP, mQ⟩ t A3 B3 c3 d3 w6 HA7.out.2.1 HA7.out.2.2 HM.out.2 HT.out.1 HQ.out.1).mono ?_
        intro e w7 hR
        obtain ⟨A4, B4, c4, d4, rfl, hA4, hB4, hb7, _, _⟩ := hR.as HTS.out rfl
        have HX8 := Lib.hid (And.intro (HX7.out.1.below hb7) (HX7.out.2.below hb7))
        have HB8 := Lib.hid (HB7.out.trans (hb7.mono HB7.out.size))
        have HA8 := Lib.hid (And.intro (And.intro (And.intro (HA7.out.1.1.1.below hb7) (HA7.out.1.1.2.below hb7)) (And.intro (HA7.out.1.2.1.below hb7) (HA7.out.1.2.2.below hb7))) (And.intro hA4 hB4))
        obtain ⟨x0, x1, x2, x3, x4, x5, x6, x7⟩ := HX8.out.1.cells
        obtain ⟨y0, y1, y2, y3, y4, y5, y6, y7⟩ := HX8.out.2.cells
        have e0 := HX8.out.1.lt
        have e1 := HX8.out.2.lt
        clear hR hA4 hB4 hb7 HX7 HB7 HA7
        simp only [hvA]
        go_wp2_with fail
        have hwx : Below w7.heap.size w7 (w7.alloc (.cells #[.int .i64 k, .int .i64 t, .int .i64 dz, .int .u64 dzc, .int .u64 ct, .int .i64 sm, .slice A4 dP.length c4, .slice B4 dQ.length d4] 25)) := (Below.refl _ _).alloc (Nat.le_refl _) _
        have HX9a := Lib.hid (HX8.out.1.below hwx)
        have HB9a := Lib.hid (HB8.out.trans (hwx.mono HB8.out.size))
        have HA9a := Lib.hid (And.intro (And.intro (And.intro (HA8.out.1.1.1.below hwx) (HA8.out.1.1.2.below hwx)) (And.intro (HA8.out.1.2.1.below hwx) (HA8.out.1.2.2.below hwx))) (And.intro (HA8.out.2.1.below hwx) (HA8.out.2.2.below hwx)))
        clear x0 x1 x2 x3 x4 x5 x6 x7 e0 y0 y1 y2 y3 y4 y5 y6 y7 e1 hwx HX8 HB8 HA8
        generalize w7.alloc (.cells #[.int .i64 k, .int .i64 t, .int .i64 dz, .int .u64 dzc, .int .u64 ct, .int .i64 sm, .slice A4 dP.length c4, .slice B4 dQ.length d4] 25) = w8 at *
        refine (isame_any k t dz dzc ct sm k t dz dzc ct sm A4 B4 A2 B2 c4 d4 _ _ dP dQ dP dQ w8 HA9a.out.2.1 HA9a.out.2.2 HA9a.out.1.2.1 HA9a.out.1.2.2).mono ?_
        rw [sameF_self]
        rintro e w8b ⟨rfl, hb8⟩
        have HX9 := Lib.hid (HX9a.out.below hb8)
        have HB9 := Lib.hid (HB9a.out.trans (hb8.mono HB9a.out.size))
        have HA9 := Lib.hid (And.intro (HA9a.out.1.1.1.below hb8) (HA9a.out.1.1.2.below hb8))
        clear hb8 HX9a HB9a HA9a
        obtain ⟨x0, x1, x2, x3, x4, x5, x6, x7⟩ := HX9.out.cells
        have e0 := HX9.out.lt
        go_wp2_with fail
        have HXf := Lib.hid (HX9.out)
        have HBf := Lib.hid (HB9.out)
        have HPf := Lib.hid (HA9.out)
        clear x0 x1 x2 x3 x4 x5 x6 x7 e0
        obtain ⟨wf, hwf⟩ : ∃ W, W = w8b := ⟨_, rfl⟩
        subst hwf
        rcases widenE_cases HO.out u with ⟨_, hz1, hz2⟩ | ⟨_, hbad⟩
        · obtain ⟨rz, rzc, rP, rQ, hr, hrz, hrc, orr⟩ := widen_form HO.out hz2
          have HWR := Lib.hid (And.intro hr orr)
          have r1 : decide (u ≤ rz) = true := by simpa using hrz
          have r2 : decide (zc ≤ rzc) = true := by simpa using hrc
          clear hr orr hrz hrc
          refine (widen_good k s z zc ct sm u A B c d P Q wf HPf.out.1 HPf.out.2 HO.out hz1 hz2).mono ?_
          intro e w9 hR
          obtain ⟨A9, B9, c9, d9, rfl, hA9, hB9, hb9, _, _⟩ := hR.as HWR.out.1 rfl
          have hwg : Below w9.heap.size w9 (w9.alloc (.cells #[.int .i64 k, .int .i64 s, .int .i64 rz, .int .u64 rzc, .int .u64 ct, .int .i64 sm, .slice A9 rP.length c9, .slice B9 rQ.length d9] 25)) := (Below.refl _ _).alloc (Nat.le_refl _) _
          have HX9 := Lib.hid (And.intro ((HXf.out.below hb9).below hwg) (Box.new w9 (.int .i64 k) (.int .i64 s) (.int .i64 rz) (.int .u64 rzc) (.int .u64 ct) (.int .i64 sm) (.slice A9 rP.length c9) (.slice B9 rQ.length d9)))
          have HB9 := Lib.hid ((HBf.out.trans (hb9.mono HBf.out.size)).trans (hwg.mono (HBf.out.trans (hb9.mono HBf.out.size)).size))
          have HA9 := Lib.hid (And.intro (hA9.below hwg) (hB9.below hwg))
          clear hR hA9 hB9 hb9 hwg HXf HBf HPf hz1 hz2
          simp only [hvA]
          go_wp2_with fail
          obtain ⟨gw, hgw⟩ : ∃ g, w9.heap.size = g := ⟨_, rfl⟩
          rw [hgw] at HX9 ⊢
          generalize w9.alloc (.cells #[.int .i64 k, .int .i64 s, .int .i64 rz, .int .u64 rzc, .int .u64 ct, .int .i64 sm, .slice A9 rP.length c9, .slice B9 rQ.length d9] 25) = w10 at *
          refine (awake07 w10).mono ?_
          rintro e w11 ⟨rfl, hb11⟩
          have HX11 := Lib.hid (And.intro (HX9.out.1.below hb11) (HX9.out.2.below hb11))
          have HB11 := Lib.hid (HB9.out.trans (hb11.mono HB9.out.size))
          have HA11 := Lib.hid (And.intro (HA9.out.1.below hb11) (HA9.out.2.below hb11))
          obtain ⟨x0, x1, x2, x3, x4, x5, x6, x7⟩ := HX11.out.1.cells
          obtain ⟨y0, y1, y2, y3, y4, y5, y6, y7⟩ := HX11.out.2.cells
          have e0 := HX11.out.1.lt
          have e1 := HX11.out.2.lt
          clear hb11 hgw HX9 HB9 HA9
          go_wp2_with fail
          refine (checkN k s rz rzc ct (.int .i64 sm) A9 B9 c9 d9 rP rQ w11 HWR.out.2.zc HWR.out.2.toGood.z1 HA11.out.1 HA11.out.2 0 HWR.out.2.chk).mono ?_
          rintro e w12 ⟨rfl, hb12⟩
          have HX12 := Lib.hid (And.intro (HX11.out.1.below hb12) (HX11.out.2.below hb12))
          have HB12 := Lib.hid (HB11.out.trans (hb12.mono HB11.out.size))
          clear x0 x1 x2 x3 x4 x5 x6 x7 y0 y1 y2 y3 y4 y5 y6 y7 e0 e1 hb12 HX11 HB11 HA11
          obtain ⟨x0, x1, x2, x3, x4, x5, x6, x7⟩ := HX12.out.1.cells
          obtain ⟨y0, y1, y2, y3, y4, y5, y6, y7⟩ := HX12.out.2.cells
          have e0 := HX12.out.1.lt
          have e1 := HX12.out.2.lt
          go_wp2_with fail
          go_ret
          exact ⟨rfl, HB12.out⟩
        · refine (widen_bad k s z zc ct sm u A B c d P Q wf hbad).mono ?_
          rintro e w9 ⟨A9, B9, c9, d9, rfl, hA9, hB9, hb9, _, _⟩
          have HB9 := Lib.hid (HBf.out.trans (hb9.mono HBf.out.size))
          clear hA9 hB9 hb9 hbad HXf HBf HPf
          simp only [hvA, zeroV]
          go_wp2_with fail
          have HB10 := Lib.hid (HB9.out.alloc HB9.out.size (.cells #[.int .i64 0, .int .i64 0, .int .i64 0, .int .u64 0, .int .u64 0, .int .i64 0, .slice A9 0 c9, .slice B9 0 d9] 25))
          generalize w9.alloc (.cells #[.int .i64 0, .int .i64 0, .int .i64 0, .int .u64 0, .int .u64 0, .int .i64 0, .slice A9 0 c9, .slice B9 0 d9] 25) = w10 at *
          refine (awake07 w10).mono ?_
          rintro e w11 ⟨rfl, hb11⟩
          have HB11 := Lib.hid (HB10.out.trans (hb11.mono HB10.out.size))
          clear hb11
          go_wp2_with fail
          go_ret
          exact ⟨rfl, HB11.out⟩
      · have d2 : (z == -524288) = false := by simpa using q2
        clear q1 q2
        go_wp2_with fail
        have hwf : Below w5.heap.size w5 (w5.alloc (.cells #[.int .i64 k, .int .i64 mid, .int .i64 mz, .int .u64 mzc, .int .u64 ct, .int .i64 sm, .slice A3 mP.length c3, .slice B3 mQ.length d3] 25)) := (Below.refl _ _).alloc (Nat.le_refl _) _
        have HXf := Lib.hid (Box.below (HX6.out.1) hwf)
        have HBf := Lib.hid ((HB6.out).trans (hwf.mono (HB6.out).size))
        have HPf := Lib.hid (And.intro ((HA6.out.1.1).1.below hwf) ((HA6.out.1.1).2.below hwf))
        clear x0 x1 x2 x3 x4 x5 x6 x7 e0 y0 y1 y2 y3 y4 y5 y6 y7 e1 hwf
        generalize w5.alloc (.cells #[.int .i64 k, .int .i64 mid, .int .i64 mz, .int .u64 mzc, .int .u64 ct, .int .i64 sm, .slice A3 mP.length c3, .slice B3 mQ.length d3] 25) = wf at *
        rcases widenE_cases HO.out u with ⟨_, hz1, hz2⟩ | ⟨_, hbad⟩
        · obtain ⟨rz, rzc, rP, rQ, hr, hrz, hrc, orr⟩ := widen_form HO.out hz2
          have HWR := Lib.hid (And.intro hr orr)
          have r1 : decide (u ≤ rz) = true := by simpa using hrz
          have r2 : decide (zc ≤ rzc) = true := by simpa using hrc
          clear hr orr hrz hrc
          refine (widen_good k s z zc ct sm u A B c d P Q wf HPf.out.1 HPf.out.2 HO.out hz1 hz2).mono ?_
          intro e w9 hR
          obtain ⟨A9, B9, c9, d9, rfl, hA9, hB9, hb9, _, _⟩ := hR.as HWR.out.1 rfl
          have hwg : Below w9.heap.size w9 (w9.alloc (.cells #[.int .i64 k, .int .i64 s, .int .i64 rz, .int .u64 rzc, .int .u64 ct, .int .i64 sm, .slice A9 rP.length c9, .slice B9 rQ.length d9] 25)) := (Below.refl _ _).alloc (Nat.le_refl _) _
          have HX9 := Lib.hid (And.intro ((HXf.out.below hb9).below hwg) (Box.new w9 (.int .i64 k) (.int .i64 s) (.int .i64 rz) (.int .u64 rzc) (.int .u64 ct) (.int .i64 sm) (.slice A9 rP.length c9) (.slice B9 rQ.length d9)))
          have HB9 := Lib.hid ((HBf.out.trans (hb9.mono HBf.out.size)).trans (hwg.mono (HBf.out.trans (hb9.mono HBf.out.size)).size))
          have HA9 := Lib.hid (And.intro (hA9.below hwg) (hB9.below hwg))
          clear hR hA9 hB9 hb9 hwg HXf HBf HPf hz1 hz2
          simp only [hvA]
          go_wp2_with fail
          obtain ⟨gw, hgw⟩ : ∃ g, w9.heap.size = g := ⟨_, rfl⟩
          rw [hgw] at HX9 ⊢
          generalize w9.alloc (.cells #[.int .i64 k, .int .i64 s, .int .i64 rz, .int .u64 rzc, .int .u64 ct, .int .i64 sm, .slice A9 rP.length c9, .slice B9 rQ.length d9] 25) = w10 at *
          refine (awake07 w10).mono ?_
          rintro e w11 ⟨rfl, hb11⟩
          have HX11 := Lib.hid (And.intro (HX9.out.1.below hb11) (HX9.out.2.below hb11))
          have HB11 := Lib.hid (HB9.out.trans (hb11.mono HB9.out.size))
          have HA11 := Lib.hid (And.intro (HA9.out.1.below hb11) (HA9.out.2.below hb11))
          obtain ⟨x0, x1, x2, x3, x4, x5, x6, x7⟩ := HX11.out.1.cells
          obtain ⟨y0, y1, y2, y3, y4, y5, y6, y7⟩ := HX11.out.2.cells
          have e0 := HX11.out.1.lt
          have e1 := HX11.out.2.lt
          clear hb11 hgw HX9 HB9 HA9
          go_wp2_with fail
          refine (checkN k s rz rzc ct (.int .i64 sm) A9 B9 c9 d9 rP rQ w11 HWR.out.2.zc HWR.out.2.toGood.z1 HA11.out.1 HA11.out.2 0 HWR.out.2.chk).mono ?_
          rintro e w12 ⟨rfl, hb12⟩
          have HX12 := Lib.hid (And.intro (HX11.out.1.below hb12) (HX11.out.2.below hb12))
          have HB12 := Lib.hid (HB11.out.trans (hb12.mono HB11.out.size))
          clear x0 x1 x2 x3 x4 x5 x6 x7 y0 y1 y2 y3 y4 y5 y6 y7 e0 e1 hb12 HX11 HB11 HA11
          obtain ⟨x0, x1, x2, x3, x4, x5, x6, x7⟩ := HX12.out.1.cells
          obtain ⟨y0, y1, y2, y3, y4, y5, y6, y7⟩ := HX12.out.2.cells
          have e0 := HX12.out.1.lt
          have e1 := HX12.out.2.lt
          go_wp2_with fail
          go_ret
          exact ⟨rfl, HB12.out⟩
        · refine (widen_bad k s z zc ct sm u A B c d P Q wf hbad).mono ?_
          rintro e w9 ⟨A9, B9, c9, d9, rfl, hA9, hB9, hb9, _, _⟩
          have HB9 := Lib.hid (HBf.out.trans (hb9.mono HBf.out.size))
          clear hA9 hB9 hb9 hbad HXf HBf HPf
          simp only [hvA, zeroV]
          go_wp2_with fail
          have HB10 := Lib.hid (HB9.out.alloc HB9.out.size (.cells #[.int .i64 0, .int .i64 0, .int .i64 0, .int .u64 0, .int .u64 0, .int .i64 0, .slice A9 0 c9, .slice B9 0 d9] 25))
          generalize w9.alloc (.cells #[.int .i64 0, .int .i64 0, .int .i64 0, .int .u64 0, .int .u64 0, .int .i64 0, .slice A9 0 c9, .slice B9 0 d9] 25) = w10 at *
          refine (awake07 w10).mono ?_
          rintro e w11 ⟨rfl, hb11⟩
          have HB11 := Lib.hid (HB10.out.trans (hb11.mono HB10.out.size))
          clear hb11
          go_wp2_with fail
          go_ret
          exact ⟨rfl, HB11.out⟩
    · have d1 : decide (t ≤ mid) = false := by simpa using q1
      clear q1
      go_wp2_with fail
      have hwf : Below w5.heap.size w5 (w5.alloc (.cells #[.int .i64 k, .int .i64 mid, .int .i64 mz, .int .u64 mzc, .int .u64 ct, .int .i64 sm, .slice A3 mP.length c3, .slice B3 mQ.length d3] 25)) := (Below.refl _ _).alloc (Nat.le_refl _) _
      have HXf := Lib.hid (Box.below (HX6.out.1) hwf)
      have HBf := Lib.hid ((HB6.out).trans (hwf.mono (HB6.out).size))
      have HPf := Lib.hid (And.intro ((HA6.out.1.1).1.below hwf) ((HA6.out.1.1).2.below hwf))
      clear x0 x1 x2 x3 x4 x5 x6 x7 e0 y0 y1 y2 y3 y4 y5 y6 y7 e1 hwf
      generalize w5.alloc (.cells #[.int .i64 k, .int .i64 mid, .int .i64 mz, .int .u64 mzc, .int .u64 ct, .int .i64 sm, .slice A3 mP.length c3, .slice B3 mQ.length d3] 25) = wf at *
      rcases widenE_cases HO.out u with ⟨_, hz1, hz2⟩ | ⟨_, hbad⟩
      · obtain ⟨rz, rzc, rP, rQ, hr, hrz, hrc, orr⟩ := widen_form HO.out hz2
        have HWR := Lib.hid (And.intro hr orr)
        have r1 : decide (u ≤ rz) = true := by simpa using hrz
        have r2 : decide (zc ≤ rzc) = true := by simpa using hrc
        clear hr orr hrz hrc
        refine (widen_good k s z zc ct sm u A B c d P Q wf HPf.out.1 HPf.out.2 HO.out hz1 hz2).mono ?_
        intro e w9 hR
        obtain ⟨A9, B9, c9, d9, rfl, hA9, hB9, hb9, _, _⟩ := hR.as HWR.out.1 rfl
        have hwg : Below w9.heap.size w9 (w9.alloc (.cells #[.int .i64 k, .int .i64 s, .int .i64 rz, .int .u64 rzc, .int .u64 ct, .int .i64 sm, .slice A9 rP.length c9, .slice B9 rQ.length d9] 25)) := (Below.refl _ _).alloc (Nat.le_refl _) _
        have HX9 := Lib.hid (And.intro ((HXf.out.below hb9).below hwg) (Box.new w9 (.int .i64 k) (.int .i64 s) (.int .i64 rz) (.int .u64 rzc) (.int .u64 ct) (.int .i64 sm) (.slice A9 rP.length c9) (.slice B9 rQ.length d9)))
        have HB9 := Lib.hid ((HBf.out.trans (hb9.mono HBf.out.size)).trans (hwg.mono (HBf.out.trans (hb9.mono HBf.out.size)).size))
        have HA9 := Lib.hid (And.intro (hA9.below hwg) (hB9.below hwg))
        clear hR hA9 hB9 hb9 hwg HXf HBf HPf hz1 hz2
        simp only [hvA]
        go_wp2_with fail
        obtain ⟨gw, hgw⟩ : ∃ g, w9.heap.size = g := ⟨_, rfl⟩
        rw [hgw] at HX9 ⊢
        generalize w9.alloc (.cells #[.int .i64 k, .int .i64 s, .int .i64 rz, .int .u64 rzc, .int .u64 ct, .int .i64 sm, .slice A9 rP.length c9, .slice B9 rQ.length d9] 25) = w10 at *
        refine (awake07 w10).mono ?_
        rintro e w11 ⟨rfl, hb11⟩
        have HX11 := Lib.hid (And.intro (HX9.out.1.below hb11) (HX9.out.2.below hb11))
        have HB11 := Lib.hid (HB9.out.trans (hb11.mono HB9.out.size))
        have HA11 := Lib.hid (And.intro (HA9.out.1.below hb11) (HA9.out.2.below hb11))
        obtain ⟨x0, x1, x2, x3, x4, x5, x6, x7⟩ := HX11.out.1.cells
        obtain ⟨y0, y1, y2, y3, y4, y5, y6, y7⟩ := HX11.out.2.cells
        have e0 := HX11.out.1.lt
        have e1 := HX11.out.2.lt
        clear hb11 hgw HX9 HB9 HA9
        go_wp2_with fail
        refine (checkN k s rz rzc ct (.int .i64 sm) A9 B9 c9 d9 rP rQ w11 HWR.out.2.zc HWR.out.2.toGood.z1 HA11.out.1 HA11.out.2 0 HWR.out.2.chk).mono ?_
        rintro e w12 ⟨rfl, hb12⟩
        have HX12 := Lib.hid (And.intro (HX11.out.1.below hb12) (HX11.out.2.below hb12))
        have HB12 := Lib.hid (HB11.out.trans (hb12.mono HB11.out.size))
        clear x0 x1 x2 x3 x4 x5 x6 x7 y0 y1 y2 y3 y4 y5 y6 y7 e0 e1 hb12 HX11 HB11 HA11
        obtain ⟨x0, x1, x2, x3, x4, x5, x6, x7⟩ := HX12.out.1.cells
        obtain ⟨y0, y1, y2, y3, y4, y5, y6, y7⟩ := HX12.out.2.cells
        have e0 := HX12.out.1.lt
        have e1 := HX12.out.2.lt
        go_wp2_with fail
        go_ret
        exact ⟨rfl, HB12.out⟩
      · refine (widen_bad k s z zc ct sm u A B c d P Q wf hbad).mono ?_
        rintro e w9 ⟨A9, B9, c9, d9, rfl, hA9, hB9, hb9, _, _⟩
        have HB9 := Lib.hid (HBf.out.trans (hb9.mono HBf.out.size))
        clear hA9 hB9 hb9 hbad HXf HBf HPf
        simp only [hvA, zeroV]
        go_wp2_with fail
        have HB10 := Lib.hid (HB9.out.alloc HB9.out.size (.cells #[.int .i64 0, .int .i64 0, .int .i64 0, .int .u64 0, .int .u64 0, .int .i64 0, .slice A9 0 c9, .slice B9 0 d9] 25))
        generalize w9.alloc (.cells #[.int .i64 0, .int .i64 0, .int .i64 0, .int .u64 0, .int .u64 0, .int .i64 0, .slice A9 0 c9, .slice B9 0 d9] 25) = w10 at *
        refine (awake07 w10).mono ?_
        rintro e w11 ⟨rfl, hb11⟩
        have HB11 := Lib.hid (HB10.out.trans (hb11.mono HB10.out.size))
        clear hb11
        go_wp2_with fail
        go_ret
        exact ⟨rfl, HB11.out⟩
  · refine (down_bad k s z zc ct sm mid A B c d P Q w4 hmn).mono ?_
    rintro e w5 ⟨A3, B3, c3, d3, rfl, hA3, hB3, hb6, _, _⟩
    have HX6 := Lib.hid (HX5.out.1.below hb6)
    have HB6 := Lib.hid (HB5.out.trans (hb6.mono HB5.out.size))
    have HA6 := Lib.hid (And.intro (HA5.out.1.1.below hb6) (HA5.out.1.2.below hb6))
    clear x0 x1 x2 x3 x4 x5 x6 x7 y0 y1 y2 y3 y4 y5 y6 y7 e0 e1 hA3 hB3 hb6 HX5 HB5 HA5 hmn em
    obtain ⟨x0, x1, x2, x3, x4, x5, x6, x7⟩ := HX6.out.cells
    have e0 := HX6.out.lt
    simp only [hvA, zeroV]
    go_wp2_with fail
    have hwf : Below w5.heap.size w5 (w5.alloc (.cells #[.int .i64 0, .int .i64 0, .int .i64 0, .int .u64 0, .int .u64 0, .int .i64 0, .slice A3 0 c3, .slice B3 0 d3] 25)) := (Below.refl _ _).alloc (Nat.le_refl _) _
    have HXf := Lib.hid (Box.below (HX6.out) hwf)
    have HBf := Lib.hid ((HB6.out).trans (hwf.mono (HB6.out).size))
    have HPf := Lib.hid (And.intro ((HA6.out).1.below hwf) ((HA6.out).2.below hwf))
    clear x0 x1 x2 x3 x4 x5 x6 x7 e0 hwf
    generalize w5.alloc (.cells #[.int .i64 0, .int .i64 0, .int .i64 0, .int .u64 0, .int .u64 0, .int .i64 0, .slice A3 0 c3, .slice B3 0 d3] 25) = wf at *
    rcases widenE_cases HO.out u with ⟨_, hz1, hz2⟩ | ⟨_, hbad⟩
    · obtain ⟨rz, rzc, rP, rQ, hr, hrz, hrc, orr⟩ := widen_form HO.out hz2
      have HWR := Lib.hid (And.intro hr orr)
      have r1 : decide (u ≤ rz) = true := by simpa using hrz
      have r2 : decide (zc ≤ rzc) = true := by simpa using hrc
      clear hr orr hrz hrc
      refine (widen_good k s z zc ct sm u A B c d P Q wf HPf.out.1 HPf.out.2 HO.out hz1 hz2).mono ?_
      intro e w9 hR
      obtain ⟨A9, B9, c9, d9, rfl, hA9, hB9, hb9, _, _⟩ := hR.as HWR.out.1 rfl
      have hwg : Below w9.heap.size w9 (w9.alloc (.cells #[.int .i64 k, .int .i64 s, .int .i64 rz, .int .u64 rzc, .int .u64 ct, .int .i64 sm, .slice A9 rP.length c9, .slice B9 rQ.length d9] 25)) := (Below.refl _ _).alloc (Nat.le_refl _) _
      have HX9 := Lib.hid (And.intro ((HXf.out.below hb9).below hwg) (Box.new w9 (.int .i64 k) (.int .i64 s) (.int .i64 rz) (.int .u64 rzc) (.int .u64 ct) (.int .i64 sm) (.slice A9 rP.length c9) (.slice B9 rQ.length d9)))
      have HB9 := Lib.hid ((HBf.out.trans (hb9.mono HBf.out.size)).trans (hwg.mono (HBf.out.trans (hb9.mono HBf.out.size)).size))
      have HA9 := Lib.hid (And.intro (hA9.below hwg) (hB9.below hwg))
      clear hR hA9 hB9 hb9 hwg HXf HBf HPf hz1 hz2
      simp only [hvA]
      go_wp2_with fail
      obtain ⟨gw, hgw⟩ : ∃ g, w9.heap.size = g := ⟨_, rfl⟩
      rw [hgw] at HX9 ⊢
      generalize w9.alloc (.cells #[.int .i64 k, .int .i64 s, .int .i64 rz, .int .u64 rzc, .int .u64 ct, .int .i64 sm, .slice A9 rP.length c9, .slice B9 rQ.length d9] 25) = w10 at *
      refine (awake07 w10).mono ?_
      rintro e w11 ⟨rfl, hb11⟩
      have HX11 := Lib.hid (And.intro (HX9.out.1.below hb11) (HX9.out.2.below hb11))
      have HB11 := Lib.hid (HB9.out.trans (hb11.mono HB9.out.size))
      have HA11 := Lib.hid (And.intro (HA9.out.1.below hb11) (HA9.out.2.below hb11))
      obtain ⟨x0, x1, x2, x3, x4, x5, x6, x7⟩ := HX11.out.1.cells
      obtain ⟨y0, y1, y2, y3, y4, y5, y6, y7⟩ := HX11.out.2.cells
      have e0 := HX11.out.1.lt
      have e1 := HX11.out.2.lt
      clear hb11 hgw HX9 HB9 HA9
      go_wp2_with fail
      refine (checkN k s rz rzc ct (.int .i64 sm) A9 B9 c9 d9 rP rQ w11 HWR.out.2.zc HWR.out.2.toGood.z1 HA11.out.1 HA11.out.2 0 HWR.out.2.chk).mono ?_
      rintro e w12 ⟨rfl, hb12⟩
      have HX12 := Lib.hid (And.intro (HX11.out.1.below hb12) (HX11.out.2.below hb12))
      have HB12 := Lib.hid (HB11.out.trans (hb12.mono HB11.out.size))
      clear x0 x1 x2 x3 x4 x5 x6 x7 y0 y1 y2 y3 y4 y5 y6 y7 e0 e1 hb12 HX11 HB11 HA11
      obtain ⟨x0, x1, x2, x3, x4, x5, x6, x7⟩ := HX12.out.1.cells
      obtain ⟨y0, y1, y2, y3, y4, y5, y6, y7⟩ := HX12.out.2.cells
      have e0 := HX12.out.1.lt
      have e1 := HX12.out.2.lt
      go_wp2_with fail
      go_ret
      exact ⟨rfl, HB12.out⟩
    · refine (widen_bad k s z zc ct sm u A B c d P Q wf hbad).mono ?_
      rintro e w9 ⟨A9, B9, c9, d9, rfl, hA9, hB9, hb9, _, _⟩
      have HB9 := Lib.hid (HBf.out.trans (hb9.mono HBf.out.size))
      clear hA9 hB9 hb9 hbad HXf HBf HPf
      simp only [hvA, zeroV]
      go_wp2_with fail
      have HB10 := Lib.hid (HB9.out.alloc HB9.out.size (.cells #[.int .i64 0, .int .i64 0, .int .i64 0, .int .u64 0, .int .u64 0, .int .i64 0, .slice A9 0 c9, .slice B9 0 d9] 25))
      generalize w9.alloc (.cells #[.int .i64 0, .int .i64 0, .int .i64 0, .int .u64 0, .int .u64 0, .int .i64 0, .slice A9 0 c9, .slice B9 0 d9] 25) = w10 at *
      refine (awake07 w10).mono ?_
      rintro e w11 ⟨rfl, hb11⟩
      have HB11 := Lib.hid (HB10.out.trans (hb11.mono HB10.out.size))
      clear hb11
      go_wp2_with fail
      go_ret
      exact ⟨rfl, HB11.out⟩
end Go.Proofs.Ytofaciagkkipbaa

/-! The law MeldKeeps, for every input. -/
namespace Go.Proofs.Ytofaciagkkipbaa
open Go.RowKit Go.Sort Go.Maps
set_option linter.unusedVariables false

set_option maxHeartbeats 4000000 in
set_option maxRecDepth 100000 in
theorem keeps_bad (k s z zc ct sm : Int) (A B : Option Addr) (c d : Nat) (P Q : List (Int × Int)) (mid t u : Int) (w : World) (z0 : 0 ≤ zc) (z1 : zc ≤ 18446744073709551615) (hP : Bk w A P) (hQ : Bk w B Q) (hr : fewB ⟨k, s, z, zc, ct, sm, P, Q⟩ = true) (o : Ok ⟨k, s, z, zc, ct, sm, P, Q⟩)
    (hn : ¬ (rightB t = true ∧ t ≤ s)) :
    Calls Try.prog 6 #[.agg #[.int .i64 k, .int .i64 s, .int .i64 z, .int .u64 zc, .int .u64 ct, .int .i64 sm, .slice A P.length c, .slice B Q.length d], .int .i64 mid, .int .i64 t, .int .i64 u] w fun e w' => e = .returned (.bool true) ∧ Below w.heap.size w w' := by
  have hb0 : Below w.heap.size w (w.alloc (.cells #[.int .i64 k, .int .i64 s, .int .i64 z, .int .u64 zc, .int .u64 ct, .int .i64 sm, .slice A P.length c, .slice B Q.length d] 25)) := (Below.refl _ _).alloc (Nat.le_refl _) _
  have HX := Lib.hid (Box.new w (.int .i64 k) (.int .i64 s) (.int .i64 z) (.int .u64 zc) (.int .u64 ct) (.int .i64 sm) (.slice A P.length c) (.slice B Q.length d))
  have HP := Lib.hid (And.intro (hP.below hb0) (hQ.below hb0))
  have HB0 := Lib.hid hb0
  have HO := Lib.hid o
  have HF := Lib.hid hr
  have HZ := Lib.hid (And.intro z0 z1)
  have HT := Lib.hid hn
  clear hP hQ hb0 o hr z0 z1 hn
  go_enter Try.func6, Try.ntmps6
  go_wp2_with fail
  have hb1 : Below w.heap.size w ((w.alloc (.cells #[.int .i64 k, .int .i64 s, .int .i64 z, .int .u64 zc, .int .u64 ct, .int .i64 sm, .slice A P.length c, .slice B Q.length d] 25)).alloc (.cells #[.int .i64 k, .int .i64 s, .int .i64 z, .int .u64 zc, .int .u64 ct, .int .i64 sm, .slice A P.length c, .slice B Q.length d] 25)) := HB0.out.alloc HB0.out.size _
  have HX1 := Lib.hid (And.intro (HX.out.alloc (.cells #[.int .i64 k, .int .i64 s, .int .i64 z, .int .u64 zc, .int .u64 ct, .int .i64 sm, .slice A P.length c, .slice B Q.length d] 25)) (Box.newAt (w.alloc (.cells #[.int .i64 k, .int .i64 s, .int .i64 z, .int .u64 zc, .int .u64 ct, .int .i64 sm, .slice A P.length c, .slice B Q.length d] 25)) (w.heap.size + 1) (by simp) (.int .i64 k) (.int .i64 s) (.int .i64 z) (.int .u64 zc) (.int .u64 ct) (.int .i64 sm) (.slice A P.length c) (.slice B Q.length d)))
  have HP1 := Lib.hid (And.intro (HP.out.1.below ((Below.refl _ _).alloc (Nat.le_refl _) (.cells #[.int .i64 k, .int .i64 s, .int .i64 z, .int .u64 zc, .int .u64 ct, .int .i64 sm, .slice A P.length c, .slice B Q.length d] 25))) (HP.out.2.below ((Below.refl _ _).alloc (Nat.le_refl _) (.cells #[.int .i64 k, .int .i64 s, .int .i64 z, .int .u64 zc, .int .u64 ct, .int .i64 sm, .slice A P.length c, .slice B Q.length d] 25))))
  have HB1 := Lib.hid hb1
  clear hb1 HX HP HB0
  generalize ((w.alloc (.cells #[.int .i64 k, .int .i64 s, .int .i64 z, .int .u64 zc, .int .u64 ct, .int .i64 sm, .slice A P.length c, .slice B Q.length d] 25)).alloc (.cells #[.int .i64 k, .int .i64 s, .int .i64 z, .int .u64 zc, .int .u64 ct, .int .i64 sm, .slice A P.length c, .slice B Q.length d] 25)) = w0 at *
  refine (lright_any (some ⟨w.heap.size + 1, 0, none⟩) 1 1 [⟨k, s, z, zc, ct, sm, P, Q⟩] w0 rfl (Hl.one HX1.out.2 HP1.out.1 HP1.out.2 HZ.out.1 HZ.out.2)).mono ?_
  rintro e w1 ⟨rfl, hb2⟩
  have hRR : rightF [⟨k, s, z, zc, ct, sm, P, Q⟩] = true := by unfold rightF; rw [List.all_cons, HF.out]; rfl
  rw [hRR]
  have HX2 := Lib.hid (HX1.out.1.below hb2)
  have HP2 := Lib.hid (And.intro (HP1.out.1.below hb2) (HP1.out.2.below hb2))
  have HB2 := Lib.hid (HB1.out.trans (hb2.mono HB1.out.size))
  obtain ⟨x0, x1, x2, x3, x4, x5, x6, x7⟩ := HX2.out.cells
  have e0 := HX2.out.lt
  clear hb2 hRR HX1 HP1 HB1
  go_wp2_with fail
  refine (down_bad k s z zc ct sm t A B c d P Q w1 HT.out).mono ?_
  rintro e w2 ⟨A3, B3, c3, d3, rfl, hA3, hB3, hb3, _, _⟩
  have HX3 := Lib.hid (HX2.out.below hb3)
  have HB3 := Lib.hid (HB2.out.trans (hb3.mono HB2.out.size))
  have HA3 := Lib.hid (And.intro (HP2.out.1.below hb3) (HP2.out.2.below hb3))
  clear x0 x1 x2 x3 x4 x5 x6 x7 e0 hA3 hB3 hb3 HX2 HP2 HB2
  obtain ⟨x0, x1, x2, x3, x4, x5, x6, x7⟩ := HX3.out.cells
  have e0 := HX3.out.lt
  have hvv : ∀ v : Int, (v != v) = false := by simp
  simp only [hvA, zeroV]
  go_wp2_with fail
  have hwf : Below w2.heap.size w2 (w2.alloc (.cells #[.int .i64 0, .int .i64 0, .int .i64 0, .int .u64 0, .int .u64 0, .int .i64 0, .slice A3 0 c3, .slice B3 0 d3] 25)) := (Below.refl _ _).alloc (Nat.le_refl _) _
  have HXf := Lib.hid (Box.below (HX3.out) hwf)
  have HBf := Lib.hid ((HB3.out).trans (hwf.mono (HB3.out).size))
  have HPf := Lib.hid (And.intro ((HA3.out).1.below hwf) ((HA3.out).2.below hwf))
  clear x0 x1 x2 x3 x4 x5 x6 x7 e0 hwf
  generalize w2.alloc (.cells #[.int .i64 0, .int .i64 0, .int .i64 0, .int .u64 0, .int .u64 0, .int .i64 0, .slice A3 0 c3, .slice B3 0 d3] 25) = wf at *
  rcases widenE_cases HO.out u with ⟨_, hz1, hz2⟩ | ⟨_, hbad⟩
  · obtain ⟨rz, rzc, rP, rQ, hr, hrz, hrc, orr⟩ := widen_form HO.out hz2
    have HWR := Lib.hid (And.intro hr orr)
    have r1 : decide (u ≤ rz) = true := by simpa using hrz
    have r2 : decide (zc ≤ rzc) = true := by simpa using hrc
    clear hr orr hrz hrc
    refine (widen_good k s z zc ct sm u A B c d P Q wf HPf.out.1 HPf.out.2 HO.out hz1 hz2).mono ?_
    intro e w9 hR
    obtain ⟨A9, B9, c9, d9, rfl, hA9, hB9, hb9, _, _⟩ := hR.as HWR.out.1 rfl
    have hwg : Below w9.heap.size w9 (w9.alloc (.cells #[.int .i64 k, .int .i64 s, .int .i64 rz, .int .u64 rzc, .int .u64 ct, .int .i64 sm, .slice A9 rP.length c9, .slice B9 rQ.length d9] 25)) := (Below.refl _ _).alloc (Nat.le_refl _) _
    have HX9 := Lib.hid (And.intro ((HXf.out.below hb9).below hwg) (Box.new w9 (.int .i64 k) (.int .i64 s) (.int .i64 rz) (.int .u64 rzc) (.int .u64 ct) (.int .i64 sm) (.slice A9 rP.length c9) (.slice B9 rQ.length d9)))
    have HB9 := Lib.hid ((HBf.out.trans (hb9.mono HBf.out.size)).trans (hwg.mono (HBf.out.trans (hb9.mono HBf.out.size)).size))
    have HA9 := Lib.hid (And.intro (hA9.below hwg) (hB9.below hwg))
    clear hR hA9 hB9 hb9 hwg HXf HBf HPf hz1 hz2
    simp only [hvA]
    go_wp2_with fail
    obtain ⟨gw, hgw⟩ : ∃ g, w9.heap.size = g := ⟨_, rfl⟩
    rw [hgw] at HX9 ⊢
    generalize w9.alloc (.cells #[.int .i64 k, .int .i64 s, .int .i64 rz, .int .u64 rzc, .int .u64 ct, .int .i64 sm, .slice A9 rP.length c9, .slice B9 rQ.length d9] 25) = w10 at *
    refine (awake07 w10).mono ?_
    rintro e w11 ⟨rfl, hb11⟩
    have HX11 := Lib.hid (And.intro (HX9.out.1.below hb11) (HX9.out.2.below hb11))
    have HB11 := Lib.hid (HB9.out.trans (hb11.mono HB9.out.size))
    have HA11 := Lib.hid (And.intro (HA9.out.1.below hb11) (HA9.out.2.below hb11))
    obtain ⟨x0, x1, x2, x3, x4, x5, x6, x7⟩ := HX11.out.1.cells
    obtain ⟨y0, y1, y2, y3, y4, y5, y6, y7⟩ := HX11.out.2.cells
    have e0 := HX11.out.1.lt
    have e1 := HX11.out.2.lt
    clear hb11 hgw HX9 HB9 HA9
    go_wp2_with fail
    refine (checkN k s rz rzc ct (.int .i64 sm) A9 B9 c9 d9 rP rQ w11 HWR.out.2.zc HWR.out.2.toGood.z1 HA11.out.1 HA11.out.2 0 HWR.out.2.chk).mono ?_
    rintro e w12 ⟨rfl, hb12⟩
    have HX12 := Lib.hid (And.intro (HX11.out.1.below hb12) (HX11.out.2.below hb12))
    have HB12 := Lib.hid (HB11.out.trans (hb12.mono HB11.out.size))
    clear x0 x1 x2 x3 x4 x5 x6 x7 y0 y1 y2 y3 y4 y5 y6 y7 e0 e1 hb12 HX11 HB11 HA11
    obtain ⟨x0, x1, x2, x3, x4, x5, x6, x7⟩ := HX12.out.1.cells
    obtain ⟨y0, y1, y2, y3, y4, y5, y6, y7⟩ := HX12.out.2.cells
    have e0 := HX12.out.1.lt
    have e1 := HX12.out.2.lt
    go_wp2_with fail
    go_ret
    exact ⟨rfl, HB12.out⟩
  · refine (widen_bad k s z zc ct sm u A B c d P Q wf hbad).mono ?_
    rintro e w9 ⟨A9, B9, c9, d9, rfl, hA9, hB9, hb9, _, _⟩
    have HB9 := Lib.hid (HBf.out.trans (hb9.mono HBf.out.size))
    clear hA9 hB9 hb9 hbad HXf HBf HPf
    simp only [hvA, zeroV]
    go_wp2_with fail
    have HB10 := Lib.hid (HB9.out.alloc HB9.out.size (.cells #[.int .i64 0, .int .i64 0, .int .i64 0, .int .u64 0, .int .u64 0, .int .i64 0, .slice A9 0 c9, .slice B9 0 d9] 25))
    generalize w9.alloc (.cells #[.int .i64 0, .int .i64 0, .int .i64 0, .int .u64 0, .int .u64 0, .int .i64 0, .slice A9 0 c9, .slice B9 0 d9] 25) = w10 at *
    refine (awake07 w10).mono ?_
    rintro e w11 ⟨rfl, hb11⟩
    have HB11 := Lib.hid (HB10.out.trans (hb11.mono HB10.out.size))
    clear hb11
    go_wp2_with fail
    go_ret
    exact ⟨rfl, HB11.out⟩
set_option maxHeartbeats 4000000 in
set_option maxRecDepth 100000 in
theorem keeps_none (k s z zc ct sm : Int) (A B : Option Addr) (c d : Nat) (P Q : List (Int × Int)) (mid t u : Int) (w : World) (z0 : 0 ≤ zc) (z1 : zc ≤ 18446744073709551615) (hP : Bk w A P) (hQ : Bk w B Q) (hr : fewB ⟨k, s, z, zc, ct, sm, P, Q⟩ = false) :
    Calls Try.prog 6 #[.agg #[.int .i64 k, .int .i64 s, .int .i64 z, .int .u64 zc, .int .u64 ct, .int .i64 sm, .slice A P.length c, .slice B Q.length d], .int .i64 mid, .int .i64 t, .int .i64 u] w fun e w' => e = .returned (.bool true) ∧ Below w.heap.size w w' := by
  have hb0 : Below w.heap.size w (w.alloc (.cells #[.int .i64 k, .int .i64 s, .int .i64 z, .int .u64 zc, .int .u64 ct, .int .i64 sm, .slice A P.length c, .slice B Q.length d] 25)) := (Below.refl _ _).alloc (Nat.le_refl _) _
  have HX := Lib.hid (Box.new w (.int .i64 k) (.int .i64 s) (.int .i64 z) (.int .u64 zc) (.int .u64 ct) (.int .i64 sm) (.slice A P.length c) (.slice B Q.length d))
  have HP := Lib.hid (And.intro (hP.below hb0) (hQ.below hb0))
  have HB0 := Lib.hid hb0
  have HF := Lib.hid hr
  have HZ := Lib.hid (And.intro z0 z1)
  clear hP hQ hb0 hr z0 z1
  go_enter Try.func6, Try.ntmps6
  go_wp2_with fail
  have hb1 : Below w.heap.size w ((w.alloc (.cells #[.int .i64 k, .int .i64 s, .int .i64 z, .int .u64 zc, .int .u64 ct, .int .i64 sm, .slice A P.length c, .slice B Q.length d] 25)).alloc (.cells #[.int .i64 k, .int .i64 s, .int .i64 z, .int .u64 zc, .int .u64 ct, .int .i64 sm, .slice A P.length c, .slice B Q.length d] 25)) := HB0.out.alloc HB0.out.size _
  have HX1 := Lib.hid (And.intro (HX.out.alloc (.cells #[.int .i64 k, .int .i64 s, .int .i64 z, .int .u64 zc, .int .u64 ct, .int .i64 sm, .slice A P.length c, .slice B Q.length d] 25)) (Box.newAt (w.alloc (.cells #[.int .i64 k, .int .i64 s, .int .i64 z, .int .u64 zc, .int .u64 ct, .int .i64 sm, .slice A P.length c, .slice B Q.length d] 25)) (w.heap.size + 1) (by simp) (.int .i64 k) (.int .i64 s) (.int .i64 z) (.int .u64 zc) (.int .u64 ct) (.int .i64 sm) (.slice A P.length c) (.slice B Q.length d)))
  have HP1 := Lib.hid (And.intro (HP.out.1.below ((Below.refl _ _).alloc (Nat.le_refl _) (.cells #[.int .i64 k, .int .i64 s, .int .i64 z, .int .u64 zc, .int .u64 ct, .int .i64 sm, .slice A P.length c, .slice B Q.length d] 25))) (HP.out.2.below ((Below.refl _ _).alloc (Nat.le_refl _) (.cells #[.int .i64 k, .int .i64 s, .int .i64 z, .int .u64 zc, .int .u64 ct, .int .i64 sm, .slice A P.length c, .slice B Q.length d] 25))))
  have HB1 := Lib.hid hb1
  clear hb1 HX HP HB0
  generalize ((w.alloc (.cells #[.int .i64 k, .int .i64 s, .int .i64 z, .int .u64 zc, .int .u64 ct, .int .i64 sm, .slice A P.length c, .slice B Q.length d] 25)).alloc (.cells #[.int .i64 k, .int .i64 s, .int .i64 z, .int .u64 zc, .int .u64 ct, .int .i64 sm, .slice A P.length c, .slice B Q.length d] 25)) = w0 at *
  refine (lright_any (some ⟨w.heap.size + 1, 0, none⟩) 1 1 [⟨k, s, z, zc, ct, sm, P, Q⟩] w0 rfl (Hl.one HX1.out.2 HP1.out.1 HP1.out.2 HZ.out.1 HZ.out.2)).mono ?_
  rintro e w1 ⟨rfl, hb2⟩
  have hRR : rightF [⟨k, s, z, zc, ct, sm, P, Q⟩] = false := by unfold rightF; rw [List.all_cons, HF.out]; rfl
  rw [hRR]
  have HB2 := Lib.hid (HB1.out.trans (hb2.mono HB1.out.size))
  clear hb2 hRR HX1 HP1 HB1
  go_wp2_with fail
  refine (awake07 w1).mono ?_
  rintro e w2 ⟨rfl, hb3⟩
  have HB3 := Lib.hid (HB2.out.trans (hb3.mono HB2.out.size))
  clear hb3
  go_wp2_with fail
  go_ret
  exact ⟨rfl, HB3.out⟩
theorem fewB_ok {h : HV} (hf : fewB h = true) (z0 : 0 ≤ h.zc) (hs : inI64 h.sm) (hP : ∀ p ∈ h.P, Wb p) (hQ : ∀ p ∈ h.Q, Wb p) : Ok h := by
  unfold fewB at hf
  rw [decide_eq_true_eq] at hf
  exact Ok.of hf.2.2 z0 hs (wb_nn hP) (wb_nn hQ)
theorem keeps_walk (k s z zc ct sm : Int) (A B : Option Addr) (c d : Nat) (P Q : List (Int × Int)) (mid t u : Int) (w : World) (z0 : 0 ≤ zc) (z1 : zc ≤ 18446744073709551615) (hP : Bk w A P) (hQ : Bk w B Q) (hs : inI64 sm) :
    Calls Try.prog 6 #[.agg #[.int .i64 k, .int .i64 s, .int .i64 z, .int .u64 zc, .int .u64 ct, .int .i64 sm, .slice A P.length c, .slice B Q.length d], .int .i64 mid, .int .i64 t, .int .i64 u] w fun e w' => e = .returned (.bool true) ∧ Below w.heap.size w w' := by
  rcases hf : fewB ⟨k, s, z, zc, ct, sm, P, Q⟩ with _ | _
  · exact keeps_none k s z zc ct sm A B c d P Q mid t u w z0 z1 hP hQ hf
  · have o : Ok ⟨k, s, z, zc, ct, sm, P, Q⟩ := fewB_ok hf z0 hs hP.2.1 hQ.2.1
    by_cases ht : rightB t = true ∧ t ≤ s
    · exact keeps_main k s z zc ct sm A B c d P Q mid t u w z0 z1 hP hQ hf o ht.1 ht.2
    · exact keeps_bad k s z zc ct sm A B c d P Q mid t u w z0 z1 hP hQ hf o ht
end Go.Proofs.Ytofaciagkkipbaa
