/- A pattern: rows with bars between. -/
import Derived.Test.YtnabfganecghkaaDoorRxP
namespace Go.Proofs.YtnabfganecghkaaDoor
open Go.RowKit
set_option linter.unusedVariables false

/-- what a row leaves: alive, or dead -/
def RwInfo (n d : Nat) (L : List UInt8) (P : List Pl) (pc : Pc) (P' : List Pl) (l : List UInt8) (e : Int) : Prop :=
  (e = 0 ∧ ∃ x m, pc = (glu x P).1 ∧ P' = (glu x P).2 ∧ (∀ o, patF n d o .eps L = patF m d o x l) ∧ l.length < m ∧ m ≤ n ∧ l.length ≤ L.length ∧ stopF l) ∨
  (e ≠ 0 ∧ l = [] ∧ ∀ o, patF n d o .eps L = .err e)
theorem rowq_one {n d g B : Nat} {L : List UInt8} {v : Value} {w w' : World} {P : List Pl} {y : Ending} (h : RowQ n d L g B v w P y w') :
    ∃ pc v' P' l e, y = .returned (pcV pc) ∧ PcOk pc ∧ P'.length + l.length ≤ 64 ∧ Out g B d v w l P' e v' w' ∧ Hid (RwInfo n d L P pc P' l e) := by
  rcases h with ⟨x, q, m, v', h1, h2, h3, h4, h5, h6, h7, h8, h9⟩ | ⟨e, pc, v', P', h1, h2, h3, h4, h5, h6⟩
  · exact ⟨_, v', _, q, 0, h6, h7, h8, h9, Lib.hid (.inl ⟨rfl, x, m, rfl, rfl, h1, h2, h3, h4, h5⟩)⟩
  · exact ⟨pc, v', P', [], e, h3, h4, by simpa using h5, h6, Lib.hid (.inr ⟨h2, rfl, h1⟩)⟩
/-- behind each round of its loop -/
def PnRel (n d : Nat) (L : List UInt8) (g B : Nat) (v : Value) (w : World) (P : List Pl) (h b : Nat) (wr : World) : Prop :=
  (∃ o x q m v', patF n d none .eps L = patF m d o x q ∧ q.length < m ∧ m ≤ n ∧ q.length ≤ L.length ∧ stopF q ∧ PcOk (glu (altO o x) P).1 ∧ (glu (altO o x) P).2.length + q.length ≤ 64 ∧ Out g B d v w q (glu (altO o x) P).2 0 v' wr ∧ Bx wr h g v' ⟨0, 0, false⟩ ∧ Bx wr b g v' (glu (altO o x) P).1) ∨
  (∃ e pc v' P', patF n d none .eps L = .err e ∧ e ≠ 0 ∧ PcOk pc ∧ P'.length ≤ 64 ∧ Out g B d v w [] P' e v' wr ∧ Bx wr h g v' ⟨0, 0, false⟩ ∧ Bx wr b g v' pc)
theorem stop_end {m d : Nat} {o : Option Rx} {x : Rx} {q : List UInt8} (hm : q.length < m) (h : stopF q) (h2 : hd 124 q = false) : patF m d o x q = .ok (altO o x) q := by
  obtain ⟨k, rfl⟩ : ∃ k, m = k + 1 := ⟨m - 1, by omega⟩
  rcases h with h | h | h
  · exact patF_end (.inl h)
  · exact patF_end (.inr h)
  · rw [h] at h2; cases h2
set_option maxHeartbeats 4000000 in
theorem pattern_any (n : Nat) (H : ∀ k, k < n → Pat k) : Pat n := by
  intro g B d v P L w p hn hP hd99
  obtain ⟨S, hS⟩ : ∃ S, patF n d none .eps L = S := ⟨_, rfl⟩
  obtain ⟨W, hW⟩ : ∃ W, w.alloc (.cells #[.int .u64 0, .int .u64 0, .bool false] 50 (0, 0)) = W := ⟨_, rfl⟩
  obtain ⟨h, hh⟩ : ∃ h, w.heap.size = h := ⟨_, rfl⟩
  have PW := Lib.hid (show Ps W g B L d v P 0 from hW ▸ p.alloc _)
  have BW := Lib.hid (show Bx W h g v ⟨0, 0, false⟩ from hh ▸ hW ▸ Bx.new p ⟨0, 0, false⟩)
  have GW := Lib.hid (show Go1 g v v w W from hW ▸ (Go1.refl _ _ _).alloc _)
  have HH := Lib.hid (show w.heap.size ≤ h by omega)
  have HN := Lib.hid (And.intro hn hP)
  have hWs : W.heap.size = h + 1 := by rw [← hW, ← hh]; simp
  have HWS := Lib.hid hWs
  have HLL := Lib.hid (show L.length ≤ 64 by omega)
  rw [hS]
  have HS := Lib.hid hS
  clear p hn hP hWs hS
  go_enter Tryd.func41, Tryd.ntmps41
  go_wp2_with fail
  clear hW hh
  refine (row_any n H n (Nat.le_refl _) _ _ _ _ _ _ _ PW.out HN.out.1 HN.out.2 hd99).mono ?_
  intro y w1 hrow
  obtain ⟨pc, v1, P1, l1, e1, rfl, hpc, hP1, ho, HINF⟩ := rowq_one hrow
  clear hrow
  obtain ⟨W2, hW2⟩ : ∃ W2, w1.alloc (.cells #[.int .u64 (pc.f : Nat), .int .u64 (pc.l : Nat), .bool pc.e] 50 (0, 0)) = W2 := ⟨_, rfl⟩
  obtain ⟨b, hb⟩ : ∃ b, w1.heap.size = b := ⟨_, rfl⟩
  have HSZ := Lib.hid (show w.heap.size ≤ b ∧ h + 1 ≤ b from by
    have h1 := ho.2.size
    have h2 := GW.out.size
    have h3 := HWS.out
    omega)
  have HBH := Lib.hid (show b ≠ h by have := HSZ.out; omega)
  have R0 := Lib.hid (show PnRel n d L g B v w P h b W2 from by
    have o2 : Out g B d v w l1 P1 e1 v1 W2 := ⟨hW2 ▸ ho.1.alloc _, GW.out.trans (hW2 ▸ ho.2.alloc _)⟩
    have bh : Bx W2 h g v1 ⟨0, 0, false⟩ := hW2 ▸ (BW.out.go ho.2).alloc _
    have bb : Bx W2 b g v1 pc := hb ▸ hW2 ▸ Bx.new ho.1 pc
    rcases HINF.out with ⟨he, x, m, h1, h2, h3, h4, h5, h6, h7⟩ | ⟨he, hl, h3⟩
    · subst h1 h2 he
      exact .inl ⟨none, x, l1, m, v1, h3 none, h4, h5, h6, h7, hpc, hP1, o2, bh, bb⟩
    · subst hl
      exact .inr ⟨e1, pc, v1, P1, h3 none, he, hpc, by simpa using hP1, o2, bh, bb⟩)
  clear ho hpc hP1 HINF
  simp only [pcV]
  go_wp2_with fail
  clear hW2 hb
  go_loopw [] (fun wr => Hid (PnRel n d L g B v w P h b wr)) (fun wr => msr g wr)
  case atStart => exact R0
  case round =>
    clear R0
    rcases hrel.out with ⟨o, x, q, m, v3, hpat, hqm, hmn, hqL, hst, hok, hlen, ho, bh, bb⟩ | ⟨e, pc, v3, P3, hpat, he, hpc, hP3, ho, bh, bb⟩
    · have HPAT := Lib.hid hpat
      obtain ⟨pc, hpc⟩ : ∃ pc, (glu (altO o x) P).1 = pc := ⟨_, rfl⟩
      obtain ⟨Q, hQ⟩ : ∃ Q, (glu (altO o x) P).2 = Q := ⟨_, rfl⟩
      rw [hpc] at hok bb
      rw [hQ] at hlen ho
      have HPC := Lib.hid hpc
      have HQQ := Lib.hid hQ
      have HOK := Lib.hid hok
      have HLEN := Lib.hid hlen
      have HO := Lib.hid ho
      have BH := Lib.hid bh
      have BB := Lib.hid bb
      have HST := Lib.hid hst
      have MS := Lib.hid (msr_ps ho.1)
      have HQM := Lib.hid (And.intro hqm (And.intro hmn hqL))
      have HQ1 := Lib.hid (show q.length ≤ 1000 by have := HLL.out; omega)
      clear hpat hok hlen ho bh bb hrel hpc hQ hqm hmn hqL hst
      cases hz : hd 124 q with
      | false =>
        have HZ := Lib.hid hz
        have HE := Lib.hid (show S = .ok (altO o x) q by rw [← HS.out, HPAT.out, stop_end HQM.out.1 HST.out hz])
        clear hz
        go_wp2_with fail
        refine (skip_any _ _ _ _ _ _ _ 124 _ HO.out.1 HQ1.out).mono ?_
        rw [HZ.out]
        rintro y w4 ⟨rfl, ho⟩
        simp only [Bool.false_eq_true, if_false] at ho
        have HO4 := Lib.hid (show Out g B d v w q Q 0 v3 w4 from HO.out.trans ho)
        have BH4 := Lib.hid (BH.out.go ho.2)
        have BB4 := Lib.hid (BB.out.go ho.2)
        clear ho
        obtain ⟨x0, x1, x2, xf0, xf1, xf2⟩ := BB4.out.cells
        obtain ⟨z0, z1, z2, zf0, zf1, zf2⟩ := BH4.out.cells
        go_wp2_with fail
        have HOO := ((HO4.out.oy BH4.out HH.out 0 (.int .u64 (pc.f : Nat))).oy BH4.out HH.out 1 (.int .u64 (pc.l : Nat))).oy BH4.out HH.out 2 (.bool pc.e)
        refine bodyPost_ret (v := pcV pc) (by simp [results, Tryd.results41, go_sem, z0, z1, z2, pcV]) rfl ?_
        rw [HE.out]
        simp only [PatP]
        rw [HPC.out, HQQ.out]
        exact ⟨rfl, HOK.out, HLEN.out, v3, HOO⟩
      | true =>
        have HZ := Lib.hid hz
        obtain ⟨k, hk⟩ : ∃ k, m = k + 1 := ⟨m - 1, by have := HQM.out.1; omega⟩
        obtain ⟨q1, hq1⟩ : ∃ q1, q.drop 1 = q1 := ⟨_, rfl⟩
        have hq1l := hd_drop hz
        rw [hq1] at hq1l
        have HQ1L := Lib.hid hq1l
        have HK := Lib.hid hk
        have HBAR := Lib.hid (show patF n d none .eps L = patF k d (some (altO o x)) .eps q1 by rw [HPAT.out, hk, patF_bar hz, hq1])
        have HRW := Lib.hid (fun (W2 : World) (pp : Ps W2 g B q1 d v3 Q 0) => row_any n H k (by have := HQM.out.2.1; omega) g B d v3 Q q1 W2 pp (by have := HQM.out.1; omega) (by have := HLEN.out; omega) hd99)
        have HQE := Lib.hid hq1
        clear hz hk hq1 hq1l
        go_wp2_with fail
        refine (skip_any _ _ _ _ _ _ _ 124 _ HO.out.1 HQ1.out).mono ?_
        rw [HZ.out]
        rintro y w4 ⟨rfl, ho⟩
        simp only [if_true] at ho
        rw [HQE.out] at ho
        have HO4 := Lib.hid (show Out g B d v w q1 Q 0 v3 w4 from HO.out.trans ho)
        have BH4 := Lib.hid (BH.out.go ho.2)
        have BB4 := Lib.hid (BB.out.go ho.2)
        clear ho
        go_wp2_with fail
        obtain ⟨x0, x1, x2, xf0, xf1, xf2⟩ := BB4.out.drew.cells
        go_region_with (first
          | (go_at_call 55; refine (HRW.out _ HO4.out.1.drew).mono ?_; intro y w5 hrow; obtain ⟨pd, v5, P5, l5, e5, rfl, hpd, hP5, ho, HINF⟩ := rowq_one hrow; have HO5 := Lib.hid (show Out g B d v w l5 P5 e5 v5 w5 from HO4.out.trans ⟨ho.1, ⟨⟨ho.2.s.os, ho.2.s.tape, ho.2.s.output, ho.2.s.size, ho.2.s.block⟩, ho.2.o⟩⟩); have BH5 := Lib.hid (BH4.out.drew.go ho.2); have BB5 := Lib.hid (BB4.out.drew.go ho.2); obtain ⟨y0, y1, y2', yf0, yf1, yf2⟩ := BB5.out.cells; have HPD := Lib.hid hpd; have HP5 := Lib.hid hP5; clear ho hpd hP5 hrow; simp only [pcV])
          | (go_at_call 57; refine (either_any pc pd _ HOK.out HPD.out).mono ?_; rintro y w6 ⟨rfl, hb6⟩; have g6 : Go1 g v5 v5 w5 w6 := Go1.of_below hb6; have HO6 := Lib.hid (show Out g B d v w l5 P5 e5 v5 w6 from ⟨HO5.out.1.below hb6, HO5.out.2.trans g6⟩); have BH6 := Lib.hid (BH5.out.go g6); have BB6 := Lib.hid (BB5.out.go g6); clear hb6 g6; obtain ⟨u0, u1, u2, uf0, uf1, uf2⟩ := BB6.out.cells; obtain ⟨J, hJ⟩ : ∃ J, eithP pc pd = J := ⟨_, rfl⟩; have HJ := Lib.hid hJ; rw [hJ]; clear hJ; simp only [pcV]))
        all_goals
          have HOX := Lib.hid (((HO6.out.oy BB6.out HSZ.out.1 0 (.int .u64 (J.f : Nat))).oy BB6.out HSZ.out.1 1 (.int .u64 (J.l : Nat))).oy BB6.out HSZ.out.1 2 (.bool J.e))
          have BHX := Lib.hid (((BH6.out.other (a := ⟨b, 0, none⟩) (fun e => absurd e HBH.out) (.int .u64 (J.f : Nat))).other (a := ⟨b, 1, none⟩) (fun e => absurd e HBH.out) (.int .u64 (J.l : Nat))).other (a := ⟨b, 2, none⟩) (fun e => absurd e HBH.out) (.bool J.e))
          have BBX := Lib.hid (BB6.out.put J)
          have HR2 := Lib.hid (show PnRel n d L g B v w P h b (((w6.setCell ⟨b, 0, none⟩ (.int .u64 (J.f : Nat))).setCell ⟨b, 1, none⟩ (.int .u64 (J.l : Nat))).setCell ⟨b, 2, none⟩ (.bool J.e)) ∧ msr g (((w6.setCell ⟨b, 0, none⟩ (.int .u64 (J.f : Nat))).setCell ⟨b, 1, none⟩ (.int .u64 (J.l : Nat))).setCell ⟨b, 2, none⟩ (.bool J.e)) < msr g wr from by
            have ms := msr_ps HOX.out.1
            have hql := HQ1L.out
            rcases HINF.out with ⟨he, x5, m5, h1, h2, h3, h4, h5, h6, h7⟩ | ⟨he, hl, h3⟩
            · subst he
              have eP : (glu (altO (some (altO o x)) x5) P).2 = P5 := by rw [h2, ← HQQ.out]; rfl
              have eJ : (glu (altO (some (altO o x)) x5) P).1 = J := by rw [← HJ.out, h1, ← HPC.out, ← HQQ.out]; rfl
              refine ⟨.inl ⟨some (altO o x), x5, l5, m5, v5, by rw [HBAR.out]; exact h3 _, h4, by have := HQM.out.2.1; have := HK.out; omega, by have := HQM.out.2.2; omega, h7, ?_, ?_, ?_, BHX.out, ?_⟩, ?_⟩
              · rw [eJ, ← HJ.out]
                exact eithP_ok HOK.out HPD.out
              · rw [eP]
                exact HP5.out
              · rw [eP]
                exact HOX.out
              · rw [eJ]
                exact BBX.out
              · rw [MS.out, ms]
                simp
                omega
            · subst hl
              refine ⟨.inr ⟨e5, J, v5, P5, by rw [HBAR.out]; exact h3 _, he, by rw [← HJ.out]; exact eithP_ok HOK.out HPD.out, by have := HP5.out; simpa using this, HOX.out, BHX.out, BBX.out⟩, ?_⟩
              rw [MS.out, ms, if_neg he]
              simp)
          go_wp2_with fail
          go_roundw
          case rel => exact Lib.hid HR2.out.1
          case measure => exact HR2.out.2
    · have HPAT := Lib.hid (show S = .err e by rw [← HS.out, hpat])
      have HE := Lib.hid he
      have HPC := Lib.hid hpc
      have HP3 := Lib.hid hP3
      have HO := Lib.hid ho
      have BH := Lib.hid bh
      have BB := Lib.hid bb
      clear hpat he hpc hP3 ho bh bb hrel
      go_wp2_with fail
      refine (skip_any _ _ _ _ _ _ _ 124 _ HO.out.1 (by simp)).mono ?_
      rintro y w4 ⟨rfl, ho⟩
      have HO4 := Lib.hid (show Out g B d v w [] P3 e v3 w4 from HO.out.trans ho)
      have BH4 := Lib.hid (BH.out.go ho.2)
      have BB4 := Lib.hid (BB.out.go ho.2)
      clear ho
      simp only [hd]
      obtain ⟨x0, x1, x2, xf0, xf1, xf2⟩ := BB4.out.cells
      obtain ⟨z0, z1, z2, zf0, zf1, zf2⟩ := BH4.out.cells
      go_wp2_with fail
      have HOO := ((HO4.out.oy BH4.out HH.out 0 (.int .u64 (pc.f : Nat))).oy BH4.out HH.out 1 (.int .u64 (pc.l : Nat))).oy BH4.out HH.out 2 (.bool pc.e)
      refine bodyPost_ret (v := pcV pc) (by simp [results, Tryd.results41, go_sem, z0, z1, z2, pcV]) rfl ?_
      rw [HPAT.out]
      exact ⟨HE.out, pc, v3, P3, rfl, HPC.out, HP3.out, HOO⟩
theorem pat_any (n : Nat) : Pat n := by
  induction n using Nat.strongRecOn with
  | _ n ih => exact pattern_any n ih
end Go.Proofs.YtnabfganecghkaaDoor
