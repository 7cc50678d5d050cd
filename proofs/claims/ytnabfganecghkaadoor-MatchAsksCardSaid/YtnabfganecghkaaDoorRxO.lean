/- A part with its signs: part. -/
import Derived.Test.YtnabfganecghkaaDoorRxN
namespace Go.Proofs.YtnabfganecghkaaDoor
open Go.RowKit
set_option linter.unusedVariables false

def partF (R : Res) : Res := match R with
  | .err e => .err e
  | .ok y q => .ok (signs y q).1 (signs y q).2
theorem signs_star {q : List UInt8} (y : Rx) (h : hd 42 q = true) : signs y q = signs (.star y) (q.drop 1) := by
  cases q with
  | nil => cases h
  | cons a r =>
    have ha : a = 42 := by simpa [hd] using h
    subst ha
    rfl
theorem signs_plus {q : List UInt8} (y : Rx) (h : hd 43 q = true) : signs y q = signs (.plus y) (q.drop 1) := by
  cases q with
  | nil => cases h
  | cons a r =>
    have ha : a = 43 := by simpa [hd] using h
    subst ha
    rfl
theorem signs_opt {q : List UInt8} (y : Rx) (h : hd 63 q = true) : signs y q = signs (.opt y) (q.drop 1) := by
  cases q with
  | nil => cases h
  | cons a r =>
    have ha : a = 63 := by simpa [hd] using h
    subst ha
    rfl
theorem signs_end {q : List UInt8} (y : Rx) (h1 : hd 42 q = false) (h2 : hd 43 q = false) (h3 : hd 63 q = false) : signs y q = (y, q) := by
  cases q with
  | nil => rfl
  | cons a r =>
    have n1 : ¬ a = 42 := by simpa [hd] using h1
    have n2 : ¬ a = 43 := by simpa [hd] using h2
    have n3 : ¬ a = 63 := by simpa [hd] using h3
    simp [signs, n1, n2, n3]
/-- behind each round of the signs' loop -/
def PtRel (R : Res) (g B d : Nat) (v : Value) (P : List Pl) (w : World) (h b : Nat) (wr : World) : Prop :=
  (∃ y q v', R = .ok (signs y q).1 (signs y q).2 ∧ PcOk (glu y P).1 ∧ (glu y P).2.length + q.length ≤ 64 ∧ Out g B d v w q (glu y P).2 0 v' wr ∧ Bx wr h g v' ⟨0, 0, false⟩ ∧ Bx wr b g v' (glu y P).1) ∨
  (∃ e pc v' P', R = .err e ∧ e ≠ 0 ∧ PcOk pc ∧ P'.length ≤ 64 ∧ Out g B d v w [] P' e v' wr ∧ Bx wr h g v' ⟨0, 0, false⟩ ∧ Bx wr b g v' pc)
set_option maxHeartbeats 2000000 in
theorem part_any (n : Nat) (H : Pat n) (g B d : Nat) (v : Value) (P : List Pl) (c : UInt8) (r : List UInt8) (w : World) (p : Ps w g B (c :: r) d v P 0) (hn : r.length < n) (hP : P.length + (r.length + 1) ≤ 64) (hd99 : d ≤ 99) :
    Calls Tryd.prog 71 #[.pointer (some ⟨g, 0, none⟩)] w fun y w' => PatP (partF (bareF (fun r => patF n (d + 1) none .eps r) d c r)) g B d v w P y w' := by
  obtain ⟨R0, hR0⟩ : ∃ R0, bareF (fun r => patF n (d + 1) none .eps r) d c r = R0 := ⟨_, rfl⟩
  obtain ⟨W, hW⟩ : ∃ W, w.alloc (.cells #[.int .u64 0, .int .u64 0, .bool false] 50 (0, 0)) = W := ⟨_, rfl⟩
  obtain ⟨h, hh⟩ : ∃ h, w.heap.size = h := ⟨_, rfl⟩
  have PW := Lib.hid (show Ps W g B (c :: r) d v P 0 from hW ▸ p.alloc _)
  have BW := Lib.hid (show Bx W h g v ⟨0, 0, false⟩ from hh ▸ hW ▸ Bx.new p ⟨0, 0, false⟩)
  have GW := Lib.hid (show Go1 g v v w W from hW ▸ (Go1.refl _ _ _).alloc _)
  have HH := Lib.hid (show w.heap.size ≤ h by omega)
  have HN := Lib.hid (And.intro hn hP)
  have hWs : W.heap.size = h + 1 := by rw [← hW, ← hh]; simp
  have HWS := Lib.hid hWs
  rw [hR0]
  have HR0 := Lib.hid hR0
  obtain ⟨R, hR⟩ : ∃ R, partF R0 = R := ⟨_, rfl⟩
  rw [hR]
  have HR := Lib.hid hR
  clear p hn hP hR hR0 hWs
  go_enter Tryd.func71, Tryd.ntmps71
  go_wp2_with fail
  clear hW hh
  refine (bare_any n H _ _ _ _ _ _ _ _ PW.out HN.out.1 HN.out.2 hd99).mono ?_
  rw [HR0.out]
  intro y w1 hb
  obtain ⟨pc, W2, hy, hW2, hsz, hsz2, HX⟩ : ∃ pc W2, y = .returned (pcV pc) ∧ w1.alloc (.cells #[.int .u64 (pc.f : Nat), .int .u64 (pc.l : Nat), .bool pc.e] 50 (0, 0)) = W2 ∧ w.heap.size ≤ w1.heap.size ∧ h + 1 ≤ w1.heap.size ∧ Hid (PtRel R g B d v P w h w1.heap.size W2) := by
    cases hr : R0 with
    | err e =>
      rw [hr] at hb
      obtain ⟨he, pc, v3, P3, rfl, hpc, hP3, ho⟩ := hb
      refine ⟨pc, _, rfl, rfl, Nat.le_trans GW.out.size ho.2.size, by have := ho.2.size; have := HWS.out; omega, Lib.hid (.inr ⟨e, pc, v3, P3, ?_, he, hpc, hP3, ⟨ho.1.alloc _, (GW.out.trans ho.2).alloc _⟩, (BW.out.go ho.2).alloc _, Bx.new ho.1 pc⟩)⟩
      rw [← HR.out, hr]; rfl
    | ok z q =>
      rw [hr] at hb
      obtain ⟨rfl, hok, hlen, v3, ho⟩ := hb
      refine ⟨_, _, rfl, rfl, Nat.le_trans GW.out.size ho.2.size, by have := ho.2.size; have := HWS.out; omega, Lib.hid (.inl ⟨z, q, v3, ?_, hok, hlen, ⟨ho.1.alloc _, (GW.out.trans ho.2).alloc _⟩, (BW.out.go ho.2).alloc _, Bx.new ho.1 _⟩)⟩
      rw [← HR.out, hr]; rfl
  subst hy
  clear hb
  obtain ⟨b, hbz⟩ : ∃ b, w1.heap.size = b := ⟨_, rfl⟩
  rw [hbz] at HX hsz hsz2
  have HWB := Lib.hid hsz
  have HBH := Lib.hid (show b ≠ h by omega)
  clear hsz hsz2
  simp only [pcV]
  go_wp2_with fail
  clear hW2 hbz
  go_loopw [] (fun wr => Hid (PtRel R g B d v P w h b wr)) (fun wr => msr g wr)
  case atStart => exact HX
  case round =>
    clear HX
    rcases hrel.out with ⟨z, q, v3, hr, hok, hlen, ho, bh, bb⟩ | ⟨e, pc, v3, P3, hr, he, hpc, hP3, ho, bh, bb⟩
    · have HRR := Lib.hid hr
      obtain ⟨pc, hpc⟩ : ∃ pc, (glu z P).1 = pc := ⟨_, rfl⟩
      obtain ⟨Q, hQ⟩ : ∃ Q, (glu z P).2 = Q := ⟨_, rfl⟩
      rw [hpc] at hok bb
      rw [hQ] at hlen ho
      have HPC := Lib.hid hpc
      have HQQ := Lib.hid hQ
      have HOK := Lib.hid hok
      have HLEN := Lib.hid hlen
      have HO := Lib.hid ho
      have BH := Lib.hid bh
      have BB := Lib.hid bb
      have MS := Lib.hid (msr_ps ho.1)
      have HQ1 := Lib.hid (show q.length ≤ 1000 by omega)
      clear hr hok hlen ho bh bb hrel hpc hQ
      cases hz42 : hd 42 q with
      | true =>
        have HZ42 := Lib.hid hz42
        clear hz42
        go_wp2_with fail
        refine (skip_any _ _ _ _ _ _ _ 42 _ HO.out.1 HQ1.out).mono ?_
        rw [HZ42.out]
        rintro y w4 ⟨rfl, ho⟩
        simp only [if_true] at ho
        obtain ⟨q1, hq1⟩ : ∃ q1, q.drop 1 = q1 := ⟨_, rfl⟩
        rw [hq1] at ho
        have HQ1E := Lib.hid hq1
        clear hq1
        have HO4 := Lib.hid (show Out g B d v w q1 Q 0 v3 w4 from HO.out.trans ho)
        have BH4 := Lib.hid (BH.out.go ho.2)
        have BB4 := Lib.hid (BB.out.go ho.2)
        clear ho
        obtain ⟨x0, x1, x2, xf0, xf1, xf2⟩ := BB4.out.cells
        go_wp2_with fail
        refine (link_any _ _ _ _ _ _ _ pc pc _ HO4.out.1 HOK.out HOK.out (by have := HLEN.out; omega)).mono ?_
        rintro y w7 ⟨rfl, ho⟩
        have HO7 := Lib.hid (show Out g B d v w q1 (linkP Q pc.l pc.f) 0 v3 w7 from HO4.out.trans ho)
        have BH7 := Lib.hid (BH4.out.go ho.2)
        have BB7 := Lib.hid (BB4.out.go ho.2)
        clear ho x0 x1 x2 xf0 xf1 xf2
        obtain ⟨x0, x1, x2, xf0, xf1, xf2⟩ := BB7.out.cells
        have HS := Lib.hid (show PtRel R g B d v P w h b (w7.setCell ⟨b, 2, none⟩ (.bool true)) from .inl ⟨.star z, q1, v3, by rw [HRR.out, signs_star z HZ42.out, HQ1E.out], by
              show PcOk ⟨(glu z P).1.f, (glu z P).1.l, true⟩
              rw [HPC.out]; exact HOK.out, by
              show (linkP (glu z P).2 (glu z P).1.l (glu z P).1.f).length + _ ≤ _
              rw [linkP_length, HQQ.out]
              have h1 := HLEN.out
              have h2 := congrArg List.length HQ1E.out
              rw [List.length_drop] at h2
              omega, by
              show Out g B d v w q1 (linkP (glu z P).2 (glu z P).1.l (glu z P).1.f) 0 v3 _
              rw [HQQ.out, HPC.out]
              exact HO7.out.oy BB7.out HWB.out 2 _, BH7.out.other (fun e => HBH.out e) _, by
              show Bx _ b g v3 ⟨(glu z P).1.f, (glu z P).1.l, true⟩
              rw [HPC.out]
              exact BB7.out.putE true⟩)
        have hq2 := hd_drop HZ42.out
        rw [HQ1E.out] at hq2
        have HM := Lib.hid (show msr g (w7.setCell ⟨b, 2, none⟩ (.bool true)) < msr g wr by
          rw [MS.out, msr_ps (HO7.out.oy BB7.out HWB.out 2 (.bool true)).1]
          simp
          omega)
        clear hq2
        go_wp2_with fail
        go_roundw
        case rel => exact HS
        case measure => exact HM.out
      | false =>
        have HZ42 := Lib.hid hz42
        clear hz42
        cases hz43 : hd 43 q with
        | true =>
          have HZ43 := Lib.hid hz43
          clear hz43
          go_wp2_with fail
          refine (skip_any _ _ _ _ _ _ _ 42 _ HO.out.1 HQ1.out).mono ?_
          rw [HZ42.out]
          rintro y w3 ⟨rfl, ho⟩
          simp only [Bool.false_eq_true, if_false] at ho
          have HO3 := Lib.hid (show Out g B d v w q Q 0 v3 w3 from HO.out.trans ho)
          have BH3 := Lib.hid (BH.out.go ho.2)
          have BB3 := Lib.hid (BB.out.go ho.2)
          clear ho
          go_wp2_with fail
          refine (skip_any _ _ _ _ _ _ _ 43 _ HO3.out.1 HQ1.out).mono ?_
          rw [HZ43.out]
          rintro y w4 ⟨rfl, ho⟩
          simp only [if_true] at ho
          obtain ⟨q1, hq1⟩ : ∃ q1, q.drop 1 = q1 := ⟨_, rfl⟩
          rw [hq1] at ho
          have HQ1E := Lib.hid hq1
          clear hq1
          have HO4 := Lib.hid (show Out g B d v w q1 Q 0 v3 w4 from HO3.out.trans ho)
          have BH4 := Lib.hid (BH3.out.go ho.2)
          have BB4 := Lib.hid (BB3.out.go ho.2)
          clear ho
          obtain ⟨x0, x1, x2, xf0, xf1, xf2⟩ := BB4.out.cells
          go_wp2_with fail
          refine (link_any _ _ _ _ _ _ _ pc pc _ HO4.out.1 HOK.out HOK.out (by have := HLEN.out; omega)).mono ?_
          rintro y w7 ⟨rfl, ho⟩
          have HO7 := Lib.hid (show Out g B d v w q1 (linkP Q pc.l pc.f) 0 v3 w7 from HO4.out.trans ho)
          have BH7 := Lib.hid (BH4.out.go ho.2)
          have BB7 := Lib.hid (BB4.out.go ho.2)
          clear ho x0 x1 x2 xf0 xf1 xf2
          have HS := Lib.hid (show PtRel R g B d v P w h b w7 from .inl ⟨.plus z, q1, v3, by rw [HRR.out, signs_plus z HZ43.out, HQ1E.out], by
                show PcOk (glu z P).1
                rw [HPC.out]; exact HOK.out, by
                show (linkP (glu z P).2 (glu z P).1.l (glu z P).1.f).length + _ ≤ _
                rw [linkP_length, HQQ.out]
                have h1 := HLEN.out
                have h2 := congrArg List.length HQ1E.out
                rw [List.length_drop] at h2
                omega, by
                show Out g B d v w q1 (linkP (glu z P).2 (glu z P).1.l (glu z P).1.f) 0 v3 _
                rw [HQQ.out, HPC.out]
                exact HO7.out, BH7.out, by
                show Bx _ b g v3 (glu z P).1
                rw [HPC.out]
                exact BB7.out⟩)
          have hq2 := hd_drop HZ43.out
          rw [HQ1E.out] at hq2
          have HM := Lib.hid (show msr g w7 < msr g wr by
            rw [MS.out, msr_ps HO7.out.1]
            simp
            omega)
          clear hq2
          go_wp2_with fail
          go_roundw
          case rel => exact HS
          case measure => exact HM.out
        | false =>
          have HZ43 := Lib.hid hz43
          clear hz43
          cases hz63 : hd 63 q with
          | true =>
            have HZ63 := Lib.hid hz63
            clear hz63
            go_wp2_with fail
            refine (skip_any _ _ _ _ _ _ _ 42 _ HO.out.1 HQ1.out).mono ?_
            rw [HZ42.out]
            rintro y w3 ⟨rfl, ho⟩
            simp only [Bool.false_eq_true, if_false] at ho
            have HO3 := Lib.hid (show Out g B d v w q Q 0 v3 w3 from HO.out.trans ho)
            have BH3 := Lib.hid (BH.out.go ho.2)
            have BB3 := Lib.hid (BB.out.go ho.2)
            clear ho
            go_wp2_with fail
            refine (skip_any _ _ _ _ _ _ _ 43 _ HO3.out.1 HQ1.out).mono ?_
            rw [HZ43.out]
            rintro y w4 ⟨rfl, ho⟩
            simp only [Bool.false_eq_true, if_false] at ho
            have HO4 := Lib.hid (show Out g B d v w q Q 0 v3 w4 from HO3.out.trans ho)
            have BH4 := Lib.hid (BH3.out.go ho.2)
            have BB4 := Lib.hid (BB3.out.go ho.2)
            clear ho
            go_wp2_with fail
            refine (skip_any _ _ _ _ _ _ _ 63 _ HO4.out.1 HQ1.out).mono ?_
            rw [HZ63.out]
            rintro y w5 ⟨rfl, ho⟩
            simp only [if_true] at ho
            obtain ⟨q1, hq1⟩ : ∃ q1, q.drop 1 = q1 := ⟨_, rfl⟩
            rw [hq1] at ho
            have HQ1E := Lib.hid hq1
            clear hq1
            have HO5 := Lib.hid (show Out g B d v w q1 Q 0 v3 w5 from HO4.out.trans ho)
            have BH5 := Lib.hid (BH4.out.go ho.2)
            have BB5 := Lib.hid (BB4.out.go ho.2)
            clear ho
            obtain ⟨x0, x1, x2, xf0, xf1, xf2⟩ := BB5.out.cells
            have HS := Lib.hid (show PtRel R g B d v P w h b (w5.setCell ⟨b, 2, none⟩ (.bool true)) from .inl ⟨.opt z, q1, v3, by rw [HRR.out, signs_opt z HZ63.out, HQ1E.out], by
                  show PcOk ⟨(glu z P).1.f, (glu z P).1.l, true⟩
                  rw [HPC.out]; exact HOK.out, by
                  show ((glu z P).2).length + _ ≤ _
                  rw [HQQ.out]
                  have h1 := HLEN.out
                  have h2 := congrArg List.length HQ1E.out
                  rw [List.length_drop] at h2
                  omega, by
                  show Out g B d v w q1 ((glu z P).2) 0 v3 _
                  rw [HQQ.out]
                  exact HO5.out.oy BB5.out HWB.out 2 _, BH5.out.other (fun e => HBH.out e) _, by
                  show Bx _ b g v3 ⟨(glu z P).1.f, (glu z P).1.l, true⟩
                  rw [HPC.out]
                  exact BB5.out.putE true⟩)
            have hq2 := hd_drop HZ63.out
            rw [HQ1E.out] at hq2
            have HM := Lib.hid (show msr g (w5.setCell ⟨b, 2, none⟩ (.bool true)) < msr g wr by
              rw [MS.out, msr_ps (HO5.out.oy BB5.out HWB.out 2 (.bool true)).1]
              simp
              omega)
            clear hq2
            go_wp2_with fail
            go_roundw
            case rel => exact HS
            case measure => exact HM.out
          | false =>
            have HZ63 := Lib.hid hz63
            clear hz63
            have HSE := Lib.hid (show R = .ok z q by rw [HRR.out, signs_end z HZ42.out HZ43.out HZ63.out])
            go_wp2_with fail
            refine (skip_any _ _ _ _ _ _ _ 42 _ HO.out.1 HQ1.out).mono ?_
            rw [HZ42.out]
            rintro y w3 ⟨rfl, ho⟩
            simp only [Bool.false_eq_true, if_false] at ho
            have HO3 := Lib.hid (show Out g B d v w q Q 0 v3 w3 from HO.out.trans ho)
            have BH3 := Lib.hid (BH.out.go ho.2)
            have BB3 := Lib.hid (BB.out.go ho.2)
            clear ho
            go_wp2_with fail
            refine (skip_any _ _ _ _ _ _ _ 43 _ HO3.out.1 HQ1.out).mono ?_
            rw [HZ43.out]
            rintro y w4 ⟨rfl, ho⟩
            simp only [Bool.false_eq_true, if_false] at ho
            have HO4 := Lib.hid (show Out g B d v w q Q 0 v3 w4 from HO3.out.trans ho)
            have BH4 := Lib.hid (BH3.out.go ho.2)
            have BB4 := Lib.hid (BB3.out.go ho.2)
            clear ho
            go_wp2_with fail
            refine (skip_any _ _ _ _ _ _ _ 63 _ HO4.out.1 HQ1.out).mono ?_
            rw [HZ63.out]
            rintro y w5 ⟨rfl, ho⟩
            simp only [Bool.false_eq_true, if_false] at ho
            have HO5 := Lib.hid (show Out g B d v w q Q 0 v3 w5 from HO4.out.trans ho)
            have BH5 := Lib.hid (BH4.out.go ho.2)
            have BB5 := Lib.hid (BB4.out.go ho.2)
            clear ho
            obtain ⟨x0, x1, x2, xf0, xf1, xf2⟩ := BB5.out.cells
            obtain ⟨z0, z1, z2, zf0, zf1, zf2⟩ := BH5.out.cells
            go_wp2_with fail
            have HOO := ((HO5.out.oy BH5.out HH.out 0 (.int .u64 (pc.f : Nat))).oy BH5.out HH.out 1 (.int .u64 (pc.l : Nat))).oy BH5.out HH.out 2 (.bool pc.e)
            refine bodyPost_ret (v := pcV pc) (by simp [results, Tryd.results71, go_sem, z0, z1, z2, pcV]) rfl ?_
            rw [HSE.out]
            simp only [PatP]
            rw [HPC.out, HQQ.out]
            exact ⟨rfl, HOK.out, HLEN.out, v3, HOO⟩
    · have HRR := Lib.hid hr
      have HE := Lib.hid he
      have HPC := Lib.hid hpc
      have HP3 := Lib.hid hP3
      have HO := Lib.hid ho
      have BH := Lib.hid bh
      have BB := Lib.hid bb
      have HQ1 := Lib.hid (show ([] : List UInt8).length ≤ 1000 by simp)
      clear hr he hpc hP3 ho bh bb hrel
      go_wp2_with fail
      refine (skip_any _ _ _ _ _ _ _ 42 _ HO.out.1 HQ1.out).mono ?_
      rintro y w3 ⟨rfl, ho⟩
      have HO3 := Lib.hid (show Out g B d v w [] P3 e v3 w3 from HO.out.trans ho)
      have BH3 := Lib.hid (BH.out.go ho.2)
      have BB3 := Lib.hid (BB.out.go ho.2)
      clear ho
      simp only [hd]
      go_wp2_with fail
      refine (skip_any _ _ _ _ _ _ _ 43 _ HO3.out.1 HQ1.out).mono ?_
      rintro y w4 ⟨rfl, ho⟩
      have HO4 := Lib.hid (show Out g B d v w [] P3 e v3 w4 from HO3.out.trans ho)
      have BH4 := Lib.hid (BH3.out.go ho.2)
      have BB4 := Lib.hid (BB3.out.go ho.2)
      clear ho
      simp only [hd]
      go_wp2_with fail
      refine (skip_any _ _ _ _ _ _ _ 63 _ HO4.out.1 HQ1.out).mono ?_
      rintro y w5 ⟨rfl, ho⟩
      have HO5 := Lib.hid (show Out g B d v w [] P3 e v3 w5 from HO4.out.trans ho)
      have BH5 := Lib.hid (BH4.out.go ho.2)
      have BB5 := Lib.hid (BB4.out.go ho.2)
      clear ho
      simp only [hd]
      obtain ⟨x0, x1, x2, xf0, xf1, xf2⟩ := BB5.out.cells
      obtain ⟨z0, z1, z2, zf0, zf1, zf2⟩ := BH5.out.cells
      go_wp2_with fail
      have HOO := ((HO5.out.oy BH5.out HH.out 0 (.int .u64 (pc.f : Nat))).oy BH5.out HH.out 1 (.int .u64 (pc.l : Nat))).oy BH5.out HH.out 2 (.bool pc.e)
      refine bodyPost_ret (v := pcV pc) (by simp [results, Tryd.results71, go_sem, z0, z1, z2, pcV]) rfl ?_
      rw [HRR.out]
      exact ⟨HE.out, pc, v3, P3, rfl, HPC.out, HP3.out, HOO⟩
end Go.Proofs.YtnabfganecghkaaDoor
