/- The document's Quantile. -/
import Derived.Test.YtbibhjcmdehdbaaRkS
namespace Go.Proofs.Ytbibhjcmdehdbaa
open Go.RowKit Go.Sort
set_option linter.unusedVariables false

theorem less_fits {a b x y : Int} : lessW (mulh a b) (mull a b) (mulh x y) (mull x y) = decide (a * b < x * y) := by
  unfold lessW; rw [mul_whole, mul_whole]
theorem qN_up {ct p n u : Int} (n0 : 0 < n) (u0 : 0 < u) : ¬ n * u < p * ct ↔ qN ct p n ≤ u := by
  have h1 : p * ct ≤ u * n ↔ -(-(p * ct) / n) ≤ u := ⟨up_le n0, up_ge n0⟩
  have h2 : n * u = u * n := Int.mul_comm _ _
  unfold qN
  rw [h2]
  omega
set_option maxHeartbeats 4000000 in
set_option maxRecDepth 100000 in
theorem refquant_any (h : HV) (A B : Option Addr) (c d : Nat) (p o_ : Int) (w : World) (hP : Bk w A h.P) (hQ : Bk w B h.Q) (o : Ok h) (p0 : 0 ≤ p) (p1 : p ≤ 18446744073709551615) (o0 : 0 ≤ o_) (o1 : o_ ≤ 18446744073709551615) :
    Calls Try.prog 33 #[.agg #[.int .i64 h.k, .int .i64 h.s, .int .i64 h.z, .int .u64 h.zc, .int .u64 h.ct, .int .i64 h.sm, .slice A h.P.length c, .slice B h.Q.length d], .int .u64 p, .int .u64 o_] w fun e w' => e = .returned (.tuple #[.agg #[.int .i64 (quC h p o_).d, .int .i64 (quC h p o_).s, .int .i64 (quC h p o_).i, .int .u64 (quC h p o_).n], .int .i64 (quE h p o_)]) ∧ Below w.heap.size w w' := by
  have hb0 : Below w.heap.size w ((w.alloc (.cells #[.int .i64 h.k, .int .i64 h.s, .int .i64 h.z, .int .u64 h.zc, .int .u64 h.ct, .int .i64 h.sm, .slice A h.P.length c, .slice B h.Q.length d] 25)).alloc (.cells #[.int .i64 0, .int .i64 0, .int .i64 0, .int .u64 0] 45)) := ((Below.refl _ _).alloc (Nat.le_refl _) _).alloc (by simp) _
  have HX0 := Lib.hid (And.intro ((Rb.new w w.heap.size rfl 25 #[.int .i64 h.k, .int .i64 h.s, .int .i64 h.z, .int .u64 h.zc, .int .u64 h.ct, .int .i64 h.sm, .slice A h.P.length c, .slice B h.Q.length d]).alloc (.cells #[.int .i64 0, .int .i64 0, .int .i64 0, .int .u64 0] 45)) (Rb.new (w.alloc (.cells #[.int .i64 h.k, .int .i64 h.s, .int .i64 h.z, .int .u64 h.zc, .int .u64 h.ct, .int .i64 h.sm, .slice A h.P.length c, .slice B h.Q.length d] 25)) (w.heap.size + 1) (by simp) 45 #[.int .i64 0, .int .i64 0, .int .i64 0, .int .u64 0]))
  have HB0 := Lib.hid hb0
  have HK0 := Lib.hid (And.intro (hP.below hb0) (hQ.below hb0))
  have HO := Lib.hid o
  have hct0 : 0 ≤ h.ct := ct_nn o
  have hct1 := o.big
  clear hP hQ o hb0
  obtain ⟨vC, hvC⟩ : ∃ v, quC h p o_ = v := ⟨_, rfl⟩
  obtain ⟨vE, hvE⟩ : ∃ v, quE h p o_ = v := ⟨_, rfl⟩
  rw [hvC, hvE]
  have HV := Lib.hid (And.intro hvE hvC)
  clear hvC hvE
  go_enter Try.func33, Try.ntmps33
  go_upto_region 1 with fail
  generalize ((w.alloc (.cells #[.int .i64 h.k, .int .i64 h.s, .int .i64 h.z, .int .u64 h.zc, .int .u64 h.ct, .int .i64 h.sm, .slice A h.P.length c, .slice B h.Q.length d] 25)).alloc (.cells #[.int .i64 0, .int .i64 0, .int .i64 0, .int .u64 0] 45)) = w0 at *
  obtain ⟨x0, x1, x2, x3, x4, x5, x6, x7⟩ := HX0.out.1.eight
  have lx := HX0.out.1.lt
  obtain ⟨r0, r1, r2, r3, f0, f1, f2, f3⟩ := HX0.out.2.fourF
  have lr := HX0.out.2.lt
  by_cases hbad : o_ = 0 ∨ o_ < p
  · have e1 : quE h p o_ = 1 := if_pos hbad
    have e2 : quC h p o_ = c0 := if_pos hbad
    rw [HV.out.1] at e1
    rw [HV.out.2] at e2
    subst e1 e2
    clear HV
    by_cases hz : o_ = 0
    · subst hz
      clear hbad
      go_wp2_with fail
      exact bodyPost_ret (v := .tuple #[.agg #[.int .i64 0, .int .i64 0, .int .i64 0, .int .u64 0], .int .i64 1]) (by simp [results, Try.results33, go_sem, r0, r1, r2, r3]) rfl ⟨rfl, ((((HB0.out.setCell (p := ⟨w.heap.size + 1, 0, none⟩) (by simp) _).setCell (p := ⟨w.heap.size + 1, 1, none⟩) (by simp) _).setCell (p := ⟨w.heap.size + 1, 2, none⟩) (by simp) _).setCell (p := ⟨w.heap.size + 1, 3, none⟩) (by simp) _)⟩
    · have hz1 : (o_ == 0) = false := by simpa using hz
      have hz2 : decide (o_ < p) = true := by simp; omega
      clear hz hbad
      go_wp2_with fail
      exact bodyPost_ret (v := .tuple #[.agg #[.int .i64 0, .int .i64 0, .int .i64 0, .int .u64 0], .int .i64 1]) (by simp [results, Try.results33, go_sem, r0, r1, r2, r3]) rfl ⟨rfl, ((((HB0.out.setCell (p := ⟨w.heap.size + 1, 0, none⟩) (by simp) _).setCell (p := ⟨w.heap.size + 1, 1, none⟩) (by simp) _).setCell (p := ⟨w.heap.size + 1, 2, none⟩) (by simp) _).setCell (p := ⟨w.heap.size + 1, 3, none⟩) (by simp) _)⟩
  · have e1 : quE h p o_ = atE h (qN h.ct p o_) := if_neg hbad
    have e2 : quC h p o_ = atC h (qN h.ct p o_) := if_neg hbad
    rw [HV.out.1] at e1
    rw [HV.out.2] at e2
    have hz1 : (o_ == 0) = false := by simp; omega
    have hz2 : ¬ o_ < p := by omega
    have HN0 := Lib.hid hbad
    clear HV hbad
    by_cases hc : h.ct = 0
    · rw [(atE_nil _ hc).1] at e1
      rw [(atE_nil _ hc).2] at e2
      subst e1 e2
      have hc1 : (h.ct == 0) = true := by simpa using hc
      clear hc
      go_wp2_with fail
      exact bodyPost_ret (v := .tuple #[.agg #[.int .i64 0, .int .i64 0, .int .i64 0, .int .u64 0], .int .i64 30]) (by simp [results, Try.results33, go_sem, r0, r1, r2, r3]) rfl ⟨rfl, ((((HB0.out.setCell (p := ⟨w.heap.size + 1, 0, none⟩) (by simp) _).setCell (p := ⟨w.heap.size + 1, 1, none⟩) (by simp) _).setCell (p := ⟨w.heap.size + 1, 2, none⟩) (by simp) _).setCell (p := ⟨w.heap.size + 1, 3, none⟩) (by simp) _)⟩
    · have hc1 : (h.ct == 0) = false := by simpa using hc
      have hN := qN_bd (ct := h.ct) p0 (show p ≤ o_ by have := HN0.out; omega) (show 0 < o_ by have := HN0.out; omega) (by omega)
      obtain ⟨m, hm⟩ : ∃ m, qN h.ct p o_ = m := ⟨_, rfl⟩
      have hsp := at_spec HO.out (n := qN h.ct p o_) (by omega) hN.2
      rw [← e1, ← e2, hm] at hsp
      rw [hm] at hN
      have HE := Lib.hid hsp
      have HM := Lib.hid (And.intro hm hN)
      clear hm hN hsp e1 e2 r0 r1 r2 r3 f0 f1 f2 f3 lr
      go_wp2_with fail
      have hmb := mulh_bd p0 p1 hct0 hct1
      have hlb := mull_bd p h.ct
      refine (refmul_any p h.ct w0 p0 p1 hct0 hct1).mono ?_
      rintro e w1 ⟨rfl, hb1⟩
      obtain ⟨wh, hwh⟩ : ∃ v, mulh p h.ct = v := ⟨_, rfl⟩
      obtain ⟨wl, hwl⟩ : ∃ v, mull p h.ct = v := ⟨_, rfl⟩
      rw [hwh] at hmb
      rw [hwl] at hlb
      rw [hwh, hwl]
      have HWP := Lib.hid (And.intro hwh hwl)
      have HX1 := Lib.hid (And.intro (HX0.out.1.below hb1) (HX0.out.2.below hb1))
      have HB1 := Lib.hid (HB0.out.trans (hb1.mono HB0.out.size))
      have HK1 := Lib.hid (And.intro (HK0.out.1.below hb1) (HK0.out.2.below hb1))
      clear hb1 HX0 HB0 HK0 x0 x1 x2 x3 x4 x5 x6 x7 lx hwh hwl
      obtain ⟨x0, x1, x2, x3, x4, x5, x6, x7⟩ := HX1.out.1.eight
      have lx := HX1.out.1.lt
      go_wp2_with fail
      refine (reford_any h A B c d w1 HK1.out.1 HK1.out.2 HO.out).mono ?_
      rintro e w3 ⟨A1, c1, rfl, hcs, hb, hnw⟩
      obtain ⟨l, hl⟩ : ∃ l, ordF h = l := ⟨_, rfl⟩
      rw [hl] at hcs HE
      have HL := Lib.hid (show (∀ p ∈ l, CelOk p ∧ 0 < p.n) ∧ totC l = h.ct ∧ l.length ≤ 1025 from by rw [← hl]; exact ⟨fun p hp => ⟨(ord_cel HO.out p hp).1, ord_pos HO.out p hp⟩, tot_ord HO.out, ord_len HO.out⟩)
      have HSt := Lib.hid (show RatS w #[.int .i64 h.k, .int .i64 h.s, .int .i64 h.z, .int .u64 h.zc, .int .u64 h.ct, .int .i64 h.sm, .slice A h.P.length c, .slice B h.Q.length d] A1 l w3 from ⟨HX1.out.1.below hb, HX1.out.2.below hb, hcs, HB1.out.trans (hb.mono HB1.out.size)⟩)
      rw [hl]
      have hll : (l.length : Int) ≤ 1025 := by have := HL.out.2.2; omega
      clear x0 x1 x2 x3 x4 x5 x6 x7 lx hb hcs hnw hl HX1 HB1 HK1 hz1 hz2 hc1 hc
      go_wp2_with fail
      go_loopw [11, 12] (fun m_ i wr => ∃ (k : Nat) (x : Int), k ≤ l.length ∧ m_ = .int .u64 x ∧ i = .int .i64 k ∧ 0 ≤ x ∧ Hid (x < m ∧ x = totC (l.take k)) ∧ Hid (RatS w #[.int .i64 h.k, .int .i64 h.s, .int .i64 h.z, .int .u64 h.zc, .int .u64 h.ct, .int .i64 h.sm, .slice A h.P.length c, .slice B h.Q.length d] A1 l wr)) (fun _ i _ => l.length - (intOf i).toNat)
      case atStart => exact ⟨0, 0, by omega, rfl, rfl, by omega, Lib.hid ⟨by have := HM.out; omega, by simp [totC]⟩, HSt⟩
      case round =>
        obtain ⟨k, x, hk, rfl, rfl, hx, HF, HS⟩ := hrel
        by_cases hlt : k < l.length
        · have hki : (k : Int) < (l.length : Int) := by omega
          obtain ⟨b, off, rfl, hcell⟩ := HS.out.2.2.1.some_ (by omega)
          obtain ⟨q, hp⟩ := getElem?_lt hlt
          obtain ⟨q0, q1, q2, q3⟩ := hcell k q hp
          have hpn := (HL.out.1 q (mem_of_at hp)).1.n
          have hpp := (HL.out.1 q (mem_of_at hp)).2
          have HT := Lib.hid (totC_succ hp)
          have HQ := Lib.hid hp
          have hlb2 := block_lt_of_cell q0
          simp only at hlb2
          have hup : x + q.n ≤ h.ct := by
            have h1 := totC_all (l := l) (fun p hp => Int.le_of_lt (HL.out.1 p hp).2) (k + 1)
            rw [HT.out, ← HF.out.2, HL.out.2.1] at h1
            exact h1
          clear hcell hp HSt
          go_wp2_with fail
          obtain ⟨u, hu⟩ : ∃ u, x + q.n = u := ⟨_, rfl⟩
          have hu0 : 0 < u := by omega
          have hu1 : u ≤ 18446744073709551615 := by omega
          have HU := Lib.hid hu
          rw [hu]
          clear hu hup
          refine (refmul_any o_ u _ o0 o1 (by omega) hu1).mono ?_
          rintro e w5 ⟨rfl, hb5⟩
          have hm5 := mulh_bd o0 o1 (show 0 ≤ u by omega) hu1
          have hl5 := mull_bd o_ u
          obtain ⟨uh, huh⟩ : ∃ v, mulh o_ u = v := ⟨_, rfl⟩
          obtain ⟨ul, hul⟩ : ∃ v, mull o_ u = v := ⟨_, rfl⟩
          rw [huh] at hm5
          rw [hul] at hl5
          rw [huh, hul]
          have HUP := Lib.hid (And.intro huh hul)
          have HS5 := Lib.hid (HS.out.below hb5)
          clear hb5 HS q0 q1 q2 q3 huh hul hlb2
          go_wp2_with fail
          refine (refless_any uh ul wh wl w5 (by omega) (by omega) (by omega) (by omega)).mono ?_
          rintro e w6 ⟨rfl, rfl⟩
          have hls : lessW uh ul wh wl = decide (o_ * u < p * h.ct) := by rw [← HUP.out.1, ← HUP.out.2, ← HWP.out.1, ← HWP.out.2]; exact less_fits
          have hiff := qN_up (ct := h.ct) (p := p) (n := o_) (u := u) (by have := HN0.out; omega) hu0
          rw [HM.out.1] at hiff
          obtain ⟨r0, r1, r2, r3, f0, f1, f2, f3⟩ := HS5.out.2.1.fourF
          have lr := HS5.out.2.1.lt
          have hfin := Lib.hid HS5.out.2.2.2
          by_cases hle : m ≤ u
          · have hL : lessW uh ul wh wl = false := by rw [hls, decide_eq_false_iff_not]; exact hiff.2 hle
            rw [hL]
            have hA := find_of (l := l) (n := m) (fun p hp => Int.le_of_lt (HL.out.1 p hp).2) HQ.out (by rw [← HF.out.2]; exact HF.out.1) (by rw [← HF.out.2, HU.out]; exact hle)
            have e2 := Option.some.inj (hA.symm.trans HE.out.2)
            have e1 := HE.out.1
            subst e1 e2
            obtain ⟨b', off', hab, hcell⟩ := HS5.out.2.2.1.some_ (by omega)
            injection hab with hab
            injection hab with hab1 hab2 hab3
            subst hab1 hab2
            obtain ⟨q0, q1, q2, q3⟩ := hcell k q HQ.out
            have hlb2 := block_lt_of_cell q0
            simp only at hlb2
            clear hA hiff hls hL hle hcell
            go_wp2_with fail
            exact bodyPost_ret (v := .tuple #[.agg #[.int .i64 q.d, .int .i64 q.s, .int .i64 q.i, .int .u64 q.n], .int .i64 0]) (by simp [results, Try.results33, go_sem, r0, r1, r2, r3]) rfl ⟨rfl, ((((hfin.out.setCell (p := ⟨w.heap.size + 1, 0, none⟩) (by simp) _).setCell (p := ⟨w.heap.size + 1, 1, none⟩) (by simp) _).setCell (p := ⟨w.heap.size + 1, 2, none⟩) (by simp) _).setCell (p := ⟨w.heap.size + 1, 3, none⟩) (by simp) _)⟩
          · have hL : lessW uh ul wh wl = true := by rw [hls, decide_eq_true_eq]; exact Decidable.byContradiction fun g => hle (hiff.1 g)
            rw [hL]
            have HNE := Lib.hid hle
            clear hiff hls hL hle r0 r1 r2 r3 f0 f1 f2 f3 lr
            go_wp2_with fail
            go_roundw
            case rel => exact ⟨k + 1, u, by omega, rfl, by go_num, by omega, Lib.hid ⟨by have := HNE.out; omega, by rw [HT.out, ← HF.out.2]; exact HU.out.symm⟩, HS5⟩
            case measure => simp [intOf]; omega
        · obtain rfl : k = l.length := by omega
          exfalso
          have h1 := HF.out.2
          rw [List.take_length, HL.out.2.1] at h1
          have := HM.out
          have := HF.out.1
          omega
end Go.Proofs.Ytbibhjcmdehdbaa
