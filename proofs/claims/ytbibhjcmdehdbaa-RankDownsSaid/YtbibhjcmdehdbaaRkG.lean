/- The document's Below. -/
import Derived.Test.YtbibhjcmdehdbaaRkF
import Derived.Deep.CutRange
namespace Go.Proofs.Ytbibhjcmdehdbaa
open Go.RowKit Go.Sort
set_option linter.unusedVariables false

def RbeS (w : World) (gq : Nat) (hv : Array Value) (A1 : Option Addr) (l : List Cel) (X M ct : Int) (wr : World) : Prop :=
  Rb wr w.heap.size 25 hv ∧ Rb wr (w.heap.size + 1) 65 #[.int .u64 0, .int .u64 0, .int .u64 0] ∧ Rb wr gq 65 #[.int .u64 X, .int .u64 M, .int .u64 ct] ∧ Cs wr A1 l ∧ Below w.heap.size w wr
theorem RbeS.below {w : World} {gq : Nat} {hv : Array Value} {A1 : Option Addr} {l : List Cel} {X M ct : Int} {wr w2 : World} (h : RbeS w gq hv A1 l X M ct wr) (hb : Below wr.heap.size wr w2) : RbeS w gq hv A1 l X M ct w2 :=
  ⟨h.1.below hb, h.2.1.below hb, h.2.2.1.below hb, h.2.2.2.1.below hb, h.2.2.2.2.trans (hb.mono h.2.2.2.2.size)⟩
theorem RbeS.drewN {w : World} {gq : Nat} {hv : Array Value} {A1 : Option Addr} {l : List Cel} {X M ct : Int} {wr : World} (h : RbeS w gq hv A1 l X M ct wr) (n : Nat) : RbeS w gq hv A1 l X M ct (wr.drewN n) := ⟨h.1, h.2.1, h.2.2.1, h.2.2.2.1, below_drewN h.2.2.2.2 n⟩
theorem RbeS.drew {w : World} {gq : Nat} {hv : Array Value} {A1 : Option Addr} {l : List Cel} {X M ct : Int} {wr : World} (h : RbeS w gq hv A1 l X M ct wr) : RbeS w gq hv A1 l X M ct wr.drew := h.drewN 1
theorem RbeS.setX {w : World} {gq : Nat} {hv : Array Value} {A1 : Option Addr} {l : List Cel} {X M ct : Int} {wr : World} (h : RbeS w gq hv A1 l X M ct wr) (hg : w.heap.size + 1 < gq) (hN : ∀ a, A1 = some a → a.block ≠ gq) (u : Int) : RbeS w gq hv A1 l u M ct (wr.setCell ⟨gq, 0, none⟩ (.int .u64 u)) :=
  ⟨h.1.off (by omega) _ _, h.2.1.off (by omega) _ _, heap_set_at h.2.2.1 _, h.2.2.2.1.off hN _ _, h.2.2.2.2.setCell (p := ⟨gq, 0, none⟩) (by simp; omega) _⟩
theorem RbeS.setM {w : World} {gq : Nat} {hv : Array Value} {A1 : Option Addr} {l : List Cel} {X M ct : Int} {wr : World} (h : RbeS w gq hv A1 l X M ct wr) (hg : w.heap.size + 1 < gq) (hN : ∀ a, A1 = some a → a.block ≠ gq) (u : Int) : RbeS w gq hv A1 l X u ct (wr.setCell ⟨gq, 1, none⟩ (.int .u64 u)) :=
  ⟨h.1.off (by omega) _ _, h.2.1.off (by omega) _ _, heap_set_at h.2.2.1 _, h.2.2.2.1.off hN _ _, h.2.2.2.2.setCell (p := ⟨gq, 1, none⟩) (by simp; omega) _⟩
set_option maxHeartbeats 4000000 in
set_option maxRecDepth 100000 in
theorem refbelow_any (h : HV) (A B : Option Addr) (c d : Nat) (pd pu : Int) (w : World) (hP : Bk w A h.P) (hQ : Bk w B h.Q) (o : Ok h) :
    Calls Try.prog 35 #[.agg #[.int .i64 h.k, .int .i64 h.s, .int .i64 h.z, .int .u64 h.zc, .int .u64 h.ct, .int .i64 h.sm, .slice A h.P.length c, .slice B h.Q.length d], .int .i64 pd, .int .i64 pu] w fun e w' => e = .returned (.tuple #[.agg #[.int .u64 (belX h pd pu), .int .u64 (belM h pd pu), .int .u64 (belA h pd pu)], .int .i64 (belE h pd pu)]) ∧ Below w.heap.size w w' := by
  have hb0 : Below w.heap.size w ((w.alloc (.cells #[.int .i64 h.k, .int .i64 h.s, .int .i64 h.z, .int .u64 h.zc, .int .u64 h.ct, .int .i64 h.sm, .slice A h.P.length c, .slice B h.Q.length d] 25)).alloc (.cells #[.int .u64 0, .int .u64 0, .int .u64 0] 65)) := ((Below.refl _ _).alloc (Nat.le_refl _) _).alloc (by simp) _
  have HX0 := Lib.hid (And.intro ((Rb.new w w.heap.size rfl 25 #[.int .i64 h.k, .int .i64 h.s, .int .i64 h.z, .int .u64 h.zc, .int .u64 h.ct, .int .i64 h.sm, .slice A h.P.length c, .slice B h.Q.length d]).alloc (.cells #[.int .u64 0, .int .u64 0, .int .u64 0] 65)) (Rb.new (w.alloc (.cells #[.int .i64 h.k, .int .i64 h.s, .int .i64 h.z, .int .u64 h.zc, .int .u64 h.ct, .int .i64 h.sm, .slice A h.P.length c, .slice B h.Q.length d] 25)) (w.heap.size + 1) (by simp) 65 #[.int .u64 0, .int .u64 0, .int .u64 0]))
  have HB0 := Lib.hid hb0
  have HK0 := Lib.hid (And.intro (hP.below hb0) (hQ.below hb0))
  have HO := Lib.hid o
  have hct0 : 0 ≤ h.ct := by have g := o.toGood; have h1 := g.zc; have h2 := g.nP.cnt; have h3 := g.nQ.cnt; have h4 := g.ct; omega
  have hct1 := o.big
  clear hP hQ o hb0
  obtain ⟨vX, hvX⟩ : ∃ v, belX h pd pu = v := ⟨_, rfl⟩
  obtain ⟨vM, hvM⟩ : ∃ v, belM h pd pu = v := ⟨_, rfl⟩
  obtain ⟨vA, hvA_⟩ : ∃ v, belA h pd pu = v := ⟨_, rfl⟩
  obtain ⟨vE, hvE⟩ : ∃ v, belE h pd pu = v := ⟨_, rfl⟩
  rw [hvX, hvM, hvA_, hvE]
  have HV := Lib.hid (And.intro hvE (And.intro hvX (And.intro hvM hvA_)))
  clear hvX hvM hvA_ hvE
  go_enter Try.func35, Try.ntmps35
  go_upto_region 1 with fail
  generalize ((w.alloc (.cells #[.int .i64 h.k, .int .i64 h.s, .int .i64 h.z, .int .u64 h.zc, .int .u64 h.ct, .int .i64 h.sm, .slice A h.P.length c, .slice B h.Q.length d] 25)).alloc (.cells #[.int .u64 0, .int .u64 0, .int .u64 0] 65)) = w0 at *
  go_cut [40] from 15 to 40 (fun v wx => v = .bool (!plB pd pu) ∧ wx = w0)
  case first =>
    by_cases h0 : pd = 0
    · subst h0
      by_cases hu0 : pu = 0
      · subst hu0
        go_wp2_with fail
        go_meet
        exact ⟨rfl, rfl⟩
      · have e : plB 0 pu = false := by simp [plB, hu0]
        have e1 : (pu != 0) = true := by simpa using hu0
        have he := Lib.hid e
        clear hu0 e
        go_wp2_with fail
        go_meet
        exact ⟨by rw [he.out]; rfl, rfl⟩
    · by_cases h1 : pd < -1
      · have e : plB pd pu = false := by unfold plB; rw [if_neg (by omega), if_neg (by omega)]
        have e0 : (pd == 0) = false := by simpa using h0
        have he := Lib.hid e
        clear h0 e
        go_wp2_with fail
        go_meet
        exact ⟨by rw [he.out]; rfl, rfl⟩
      · by_cases h2 : 1 < pd
        · have e : plB pd pu = false := by unfold plB; rw [if_neg (by omega), if_neg (by omega)]
          have e0 : (pd == 0) = false := by simpa using h0
          have he := Lib.hid e
          clear h0 e
          go_wp2_with fail
          go_meet
          exact ⟨by rw [he.out]; rfl, rfl⟩
        · have e0 : (pd == 0) = false := by simpa using h0
          have e3 : (pd != 0) = true := by simpa using h0
          have ep : plB pd pu = decide (-262144 < pu ∧ pu ≤ 262144) := by unfold plB; rw [if_neg h0, if_pos (by omega)]
          have hep := Lib.hid ep
          clear h0 ep
          by_cases h3 : pu ≤ -262144
          · have e : decide (-262144 < pu ∧ pu ≤ 262144) = false := by simp; omega
            have he := Lib.hid e
            clear e
            go_wp2_with fail
            go_meet
            exact ⟨by rw [hep.out, he.out]; rfl, rfl⟩
          · by_cases h4 : 262144 < pu
            · have e : decide (-262144 < pu ∧ pu ≤ 262144) = false := by simp; omega
              have he := Lib.hid e
              clear e
              go_wp2_with fail
              go_meet
              exact ⟨by rw [hep.out, he.out]; rfl, rfl⟩
            · have e : decide (-262144 < pu ∧ pu ≤ 262144) = true := by simp; omega
              have he := Lib.hid e
              clear e
              go_wp2_with fail
              go_meet
              exact ⟨by rw [hep.out, he.out]; rfl, rfl⟩
  case rest =>
    obtain ⟨rfl, hwc⟩ := hcut
    subst hwc
    obtain ⟨x0, x1, x2, x3, x4, x5, x6, x7⟩ := HX0.out.1.eight
    have lx := HX0.out.1.lt
    obtain ⟨r0, r1, r2, f0, f1, f2⟩ := HX0.out.2.three
    have lr := HX0.out.2.lt
    rcases hR : plB pd pu with _ | _
    · obtain ⟨e1, e2, e3, e4⟩ := belE_no (h := h) hR
      rw [HV.out.1] at e1
      rw [HV.out.2.1] at e2
      rw [HV.out.2.2.1] at e3
      rw [HV.out.2.2.2] at e4
      subst e1 e2 e3 e4
      clear hR HV
      go_wp2_with fail
      exact bodyPost_ret (v := .tuple #[.agg #[.int .u64 0, .int .u64 0, .int .u64 0], .int .i64 1]) (by simp [results, Try.results35, go_sem, r0, r1, r2]) rfl ⟨rfl, (((HB0.out.setCell (p := ⟨w.heap.size + 1, 0, none⟩) (by simp) _).setCell (p := ⟨w.heap.size + 1, 1, none⟩) (by simp) _).setCell (p := ⟨w.heap.size + 1, 2, none⟩) (by simp) _)⟩
    · by_cases hc : h.ct = 0
      · obtain ⟨e1, e2, e3, e4⟩ := belE_nil hR hc
        rw [HV.out.1] at e1
        rw [HV.out.2.1] at e2
        rw [HV.out.2.2.1] at e3
        rw [HV.out.2.2.2] at e4
        subst e1 e2 e3 e4
        have hc1 : (h.ct == 0) = true := by simpa using hc
        clear hR hc HV
        go_wp2_with fail
        exact bodyPost_ret (v := .tuple #[.agg #[.int .u64 0, .int .u64 0, .int .u64 0], .int .i64 30]) (by simp [results, Try.results35, go_sem, r0, r1, r2]) rfl ⟨rfl, (((HB0.out.setCell (p := ⟨w.heap.size + 1, 0, none⟩) (by simp) _).setCell (p := ⟨w.heap.size + 1, 1, none⟩) (by simp) _).setCell (p := ⟨w.heap.size + 1, 2, none⟩) (by simp) _)⟩
      · obtain ⟨e1, e2, e3, e4⟩ := belE_yes hR hc
        rw [HV.out.1] at e1
        rw [HV.out.2.1] at e2
        rw [HV.out.2.2.1] at e3
        rw [HV.out.2.2.2] at e4
        have hc1 : (h.ct == 0) = false := by simpa using hc
        have HE := Lib.hid (And.intro e1 (And.intro e2 (And.intro e3 e4)))
        have HR := Lib.hid hR
        clear hR hc HV e1 e2 e3 e4
        go_upto_region 6 with fail
        clear x0 x1 x2 x3 x4 x5 x6 x7 lx hc1 r0 r1 r2 f0 f1 f2 lr
        obtain ⟨w1, hw1⟩ : ∃ W, W = wc := ⟨_, rfl⟩
        subst hw1
        have hw : Below w1.heap.size w1 (w1.alloc (.cells #[.int .u64 0, .int .u64 0, .int .u64 h.ct] 65)) := (Below.refl _ _).alloc (Nat.le_refl _) _
        obtain ⟨gq, hgq⟩ : ∃ g, w1.heap.size = g := ⟨_, rfl⟩
        have HX2 := Lib.hid (And.intro (HX0.out.1.below hw) (And.intro (HX0.out.2.below hw) (Rb.new w1 gq hgq 65 #[.int .u64 0, .int .u64 0, .int .u64 h.ct])))
        have HB2 := Lib.hid (HB0.out.trans (hw.mono HB0.out.size))
        have HK2 := Lib.hid (And.intro (HK0.out.1.below hw) (HK0.out.2.below hw))
        have HG := Lib.hid (show w.heap.size + 1 < gq from by rw [← hgq]; exact HX0.out.2.lt)
        rw [hgq]
        clear hw hgq HX0 HB0 HK0
        generalize w1.alloc (.cells #[.int .u64 0, .int .u64 0, .int .u64 h.ct] 65) = w2 at *
        obtain ⟨x0, x1, x2, x3, x4, x5, x6, x7⟩ := HX2.out.1.eight
        have lx := HX2.out.1.lt
        go_wp2_with fail
        refine (reford_any h A B c d w2 HK2.out.1 HK2.out.2 HO.out).mono ?_
        rintro e w3 ⟨A1, c1, rfl, hcs, hb, hnw⟩
        obtain ⟨l, hl⟩ : ∃ l, ordF h = l := ⟨_, rfl⟩
        rw [hl] at hcs
        have HSt := Lib.hid (show RbeS w gq #[.int .i64 h.k, .int .i64 h.s, .int .i64 h.z, .int .u64 h.zc, .int .u64 h.ct, .int .i64 h.sm, .slice A h.P.length c, .slice B h.Q.length d] A1 l 0 0 h.ct w3 from ⟨HX2.out.1.below hb, HX2.out.2.1.below hb, HX2.out.2.2.below hb, hcs, HB2.out.trans (hb.mono HB2.out.size)⟩)
        have HN := Lib.hid (show ∀ a, A1 = some a → a.block ≠ gq from fun a ha => by have h1 := hnw a ha; have h2 := HX2.out.2.2.lt; omega)
        have HL := Lib.hid (show (∀ p ∈ l, (CelOk p ∧ 0 ≤ p.n) ∧ EndsU p h.z) ∧ totC l = h.ct ∧ l.length ≤ 1025 from by rw [← hl]; exact ⟨fun p hp => ⟨ord_cel HO.out p hp, ends_u HO.out p hp⟩, tot_ord HO.out, ord_len HO.out⟩)
        rw [hl]
        have HLQ := Lib.hid hl
        have hll : (l.length : Int) ≤ 1025 := by have := HL.out.2.2; omega
        clear x0 x1 x2 x3 x4 x5 x6 x7 lx hb hcs hnw hl HX2 HB2 HK2
        have HPU := Lib.hid (plU_of HR.out)
        obtain ⟨NP, hNP⟩ : ∃ n, numF pd pu = n := ⟨_, rfl⟩
        have HNPE := Lib.hid hNP
        clear hNP
        go_wp2_with fail
        go_loopw [10] (fun i wr => ∃ (k : Nat) (X M : Int), k ≤ l.length ∧ i = .int .i64 k ∧ Hid (X = sumB (belB h.z pd pu) (l.take k) ∧ M = sumB (midB h.z pd pu) (l.take k)) ∧ Hid (RbeS w gq #[.int .i64 h.k, .int .i64 h.s, .int .i64 h.z, .int .u64 h.zc, .int .u64 h.ct, .int .i64 h.sm, .slice A h.P.length c, .slice B h.Q.length d] A1 l X M h.ct wr)) (fun i _ => l.length - (intOf i).toNat)
        case atStart => exact ⟨0, 0, 0, by omega, rfl, Lib.hid ⟨rfl, rfl⟩, HSt⟩
        case round =>
          obtain ⟨k, X, M, hk, rfl, HXM, HS⟩ := hrel
          by_cases hlt : k < l.length
          · have hki : (k : Int) < (l.length : Int) := by omega
            obtain ⟨b, off, rfl, hcell⟩ := HS.out.2.2.2.1.some_ (by omega)
            obtain ⟨p, hp⟩ := getElem?_lt hlt
            obtain ⟨q0, q1, q2, q3⟩ := hcell k p hp
            have HPO := Lib.hid (HL.out.1 p (mem_of_at hp)).1.1
            have HEU := Lib.hid (HL.out.1 p (mem_of_at hp)).2
            have hpn := HPO.out.n
            have HT := Lib.hid (take_snoc l k p hp)
            have HPP := Lib.hid hp
            have hlb := block_lt_of_cell q0
            simp only at hlb
            have hX0 := sumB_take (belB h.z pd pu) (fun q hq => (HL.out.1 q hq).1.2) k
            have hX1 := sumB_take (belB h.z pd pu) (fun q hq => (HL.out.1 q hq).1.2) (k + 1)
            have hM0 := sumB_take (midB h.z pd pu) (fun q hq => (HL.out.1 q hq).1.2) k
            have hM1 := sumB_take (midB h.z pd pu) (fun q hq => (HL.out.1 q hq).1.2) (k + 1)
            rw [← HXM.out.1, HL.out.2.1] at hX0
            rw [← HXM.out.2, HL.out.2.1] at hM0
            rw [HT.out, sumB_snoc, ← HXM.out.1, HL.out.2.1] at hX1
            rw [HT.out, sumB_snoc, ← HXM.out.2, HL.out.2.1] at hM1
            have HBD := Lib.hid (And.intro hX1 hM1)
            clear hX1 hM1 hcell hp
            obtain ⟨x0, x1, x2, x3, x4, x5, x6, x7⟩ := HS.out.1.eight
            have lx := HS.out.1.lt
            obtain ⟨ld, hld⟩ : ∃ x, loD p h.z = x := ⟨_, rfl⟩
            obtain ⟨lu, hlu⟩ : ∃ x, loU p h.z = x := ⟨_, rfl⟩
            obtain ⟨hd, hhd⟩ : ∃ x, hiD p h.z = x := ⟨_, rfl⟩
            obtain ⟨hu, hhu⟩ : ∃ x, hiU p h.z = x := ⟨_, rfl⟩
            have HEN := Lib.hid (fun (W : World) => refends_any h A B c d p W HPO.out)
            have HEE := Lib.hid (And.intro (And.intro hld hlu) (And.intro hhd hhu))
            rw [hld, hlu, hhd, hhu] at HEN
            clear hld hlu hhd hhu
            go_wp2_with fail
            have q0' := cell_regrown q0
            have q1' := cell_regrown q1
            have q2' := cell_regrown q2
            have q3' := cell_regrown q3
            have x0' := cell_regrown x0
            have x1' := cell_regrown x1
            have x2' := cell_regrown x2
            have x3' := cell_regrown x3
            have x4' := cell_regrown x4
            have x5' := cell_regrown x5
            have x6' := cell_regrown x6
            have x7' := cell_regrown x7
            refine wp_region_quiet_below (by kernel_rfl) (by kernel_rfl) ?_
            repeat (any_goals (first | go_big_quiet_step ((go_at_call 70; (with_reducible exact Calls.regrown_of (HEN.out _)))) | quiet_step ((go_at_call 70; (with_reducible exact Calls.regrown_of (HEN.out _))))))
            refine wpQuiet_nil ?_
            intro _ hw'
            obtain ⟨⟨dq, osq⟩, hw2⟩ := hw'
            subst hw2
            have HS4 := Lib.hid (HS.out.below (below_regrown wr dq osq))
            clear q0 q1 q2 q3 x0 x1 x2 x3 x4 x5 x6 x7 lx hlb q0' q1' q2' q3' x0' x1' x2' x3' x4' x5' x6' x7' HEN HS HSt
            generalize grow (redrawn wr dq) osq = w4 at *
            go_wp2_with fail
            obtain ⟨NH, hNH⟩ : ∃ n, numF hd hu = n := ⟨_, rfl⟩
            obtain ⟨NL, hNL⟩ : ∃ n, numF ld lu = n := ⟨_, rfl⟩
            have HG2 := Lib.hid (show PlU ld lu ∧ PlU hd hu from by have g := HEU.out; unfold EndsU at g; rw [HEE.out.1.1, HEE.out.1.2, HEE.out.2.1, HEE.out.2.2] at g; exact g)
            have HAH := Lib.hid (show aboB hd hu pd pu = decide (NP < NH) from by rw [abo_num HG2.out.2 HPU.out, HNPE.out, hNH])
            have HAL := Lib.hid (show aboB pd pu ld lu = decide (NL < NP) from by rw [abo_num HPU.out HG2.out.1, HNPE.out, hNL])
            have HBB := Lib.hid (show belB h.z pd pu p = decide (NH ≤ NP) from by unfold belB; rw [HEE.out.2.1, HEE.out.2.2, hNH, HNPE.out])
            have HMB := Lib.hid (show midB h.z pd pu p = (!decide (NH ≤ NP) && decide (NL < NP)) from by unfold midB; rw [HBB.out, HEE.out.1.1, HEE.out.1.2, hNL, HNPE.out])
            clear hNH hNL
            refine (above8_any hd hu pd pu w4).mono ?_
            rintro e w5 ⟨rfl, rfl⟩
            rw [HAH.out]
            obtain ⟨t0, t1, t2, g0, g1, g2⟩ := HS4.out.2.2.1.three
            have lt_ := HS4.out.2.2.1.lt
            obtain ⟨b2, off2, e2, hcell⟩ := HS4.out.2.2.2.1.some_ (by omega)
            cases e2
            obtain ⟨q0, q1, q2, q3⟩ := hcell k p HPP.out
            clear hcell
            by_cases hbl : NH ≤ NP
            · have hd1 : decide (NP < NH) = false := by simpa using hbl
              have hd0 : decide (NH ≤ NP) = true := by simpa using hbl
              have hb1 : belB h.z pd pu p = true := by rw [HBB.out, hd0]
              have hb2 : midB h.z pd pu p = false := by rw [HMB.out, hd0]; rfl
              have hsum := HBD.out.1
              rw [hb1, if_pos rfl] at hsum
              have HXN := Lib.hid (show X + p.n = sumB (belB h.z pd pu) (l.take (k + 1)) from by rw [HT.out, sumB_snoc, ← HXM.out.1, hb1, if_pos rfl])
              have HMN := Lib.hid (show M = sumB (midB h.z pd pu) (l.take (k + 1)) from by rw [HT.out, sumB_snoc, ← HXM.out.2, hb2]; simp)
              have HS7 := Lib.hid (HS4.out.setX HG.out HN.out (X + p.n))
              have hs1 := hsum.2
              rw [hd1]
              clear hbl hb1 hb2 hsum hd1 hd0
              go_wp2_with fail
              go_region_with (fail)
              all_goals (
                go_wp2_with fail
                go_roundw
                case rel => exact ⟨k + 1, X + p.n, M, by omega, by go_num, Lib.hid ⟨HXN.out, HMN.out⟩, by first | exact HS7 | exact Lib.hid HS7.out.drew⟩
                case measure => simp [intOf]; omega)
            · have hd1 : decide (NP < NH) = true := by simp; omega
              have hd0 : decide (NH ≤ NP) = false := by simpa using hbl
              have hb1 : belB h.z pd pu p = false := by rw [HBB.out, hd0]
              have HXN := Lib.hid (show X = sumB (belB h.z pd pu) (l.take (k + 1)) from by rw [HT.out, sumB_snoc, ← HXM.out.1, hb1]; simp)
              rw [hd1]
              clear hbl
              go_wp2_with fail
              refine (above8_any pd pu ld lu w4).mono ?_
              rintro e w5 ⟨rfl, rfl⟩
              rw [HAL.out]
              by_cases hml : NL < NP
              · have hd2 : decide (NL < NP) = true := by simpa using hml
                have hb2 : midB h.z pd pu p = true := by rw [HMB.out, hd0, hd2]; rfl
                have hsum := HBD.out.2
                rw [hb2, if_pos rfl] at hsum
                have HMN := Lib.hid (show M + p.n = sumB (midB h.z pd pu) (l.take (k + 1)) from by rw [HT.out, sumB_snoc, ← HXM.out.2, hb2, if_pos rfl])
                have HS8 := Lib.hid (HS4.out.setM HG.out HN.out (M + p.n))
                have hs1 := hsum.2
                rw [hd2]
                clear hml hb1 hb2 hsum hd1 hd2 hd0
                go_wp2_with fail
                go_region_with (fail)
                all_goals (
                  go_wp2_with fail
                  go_roundw
                  case rel => exact ⟨k + 1, X, M + p.n, by omega, by go_num, Lib.hid ⟨HXN.out, HMN.out⟩, by first | exact HS8 | exact Lib.hid HS8.out.drew⟩
                  case measure => simp [intOf]; omega)
              · have hd2 : decide (NL < NP) = false := by simpa using hml
                have hb2 : midB h.z pd pu p = false := by rw [HMB.out, hd0, hd2]; rfl
                have HMN := Lib.hid (show M = sumB (midB h.z pd pu) (l.take (k + 1)) from by rw [HT.out, sumB_snoc, ← HXM.out.2, hb2]; simp)
                rw [hd2]
                clear hml hb1 hb2 hd1 hd2 hd0
                go_wp2_with fail
                go_roundw
                case rel => exact ⟨k + 1, X, M, by omega, by go_num, Lib.hid ⟨HXN.out, HMN.out⟩, HS4⟩
                case measure => simp [intOf]; omega
          · obtain rfl : k = l.length := by omega
            have hki : ¬ ((l.length : Int) < (l.length : Int)) := by omega
            have h1 := HXM.out
            rw [List.take_length] at h1
            have HXF := Lib.hid h1
            clear h1 hlt hk
            have HSF := Lib.hid HS.out
            obtain ⟨t0, t1, t2, g0, g1, g2⟩ := HS.out.2.2.1.three
            obtain ⟨r0, r1, r2, f0, f1, f2⟩ := HS.out.2.1.three
            have lr := HS.out.2.1.lt
            have lt_ := HS.out.2.2.1.lt
            go_wp2_with fail
            obtain ⟨e1, e2, e3, e4⟩ := HE.out
            rw [HLQ.out, ← HXF.out.1] at e2
            rw [HLQ.out, ← HXF.out.2] at e3
            subst e1 e2 e3 e4
            exact bodyPost_ret (v := .tuple #[.agg #[.int .u64 vX, .int .u64 vM, .int .u64 h.ct], .int .i64 0]) (by simp [results, Try.results35, go_sem, r0, r1, r2]) rfl ⟨rfl, (((HSF.out.2.2.2.2.setCell (p := ⟨w.heap.size + 1, 0, none⟩) (by simp) _).setCell (p := ⟨w.heap.size + 1, 1, none⟩) (by simp) _).setCell (p := ⟨w.heap.size + 1, 2, none⟩) (by simp) _)⟩
end Go.Proofs.Ytbibhjcmdehdbaa
