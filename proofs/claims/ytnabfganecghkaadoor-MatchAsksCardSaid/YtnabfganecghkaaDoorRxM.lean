/- What stands in brackets: inner. -/
import Derived.Test.YtnabfganecghkaaDoorRxL
namespace Go.Proofs.YtnabfganecghkaaDoor
open Go.RowKit
set_option linter.unusedVariables false

set_option maxHeartbeats 2000000 in
theorem inner_any (n : Nat) (H : Pat n) (g B d : Nat) (v : Value) (P : List Pl) (r : List UInt8) (w : World) (p : Ps w g B r d v P 0) (hn : r.length < n) (hP : P.length + r.length ≤ 64) (hd99 : d ≤ 99) :
    Calls Tryd.prog 88 #[.pointer (some ⟨g, 0, none⟩)] w fun y w' => PatP (innF (fun r => patF n (d + 1) none .eps r) d r) g B d v w P y w' := by
  obtain ⟨D, hD⟩ : ∃ D, d + 1 = D := ⟨_, rfl⟩
  obtain ⟨R, hR⟩ : ∃ R, innF (fun r => patF n (d + 1) none .eps r) d r = R := ⟨_, rfl⟩
  obtain ⟨W, hW⟩ : ∃ W, w.alloc (.cells #[.int .u64 0, .int .u64 0, .bool false] 50 (0, 0)) = W := ⟨_, rfl⟩
  obtain ⟨h, hh⟩ : ∃ h, w.heap.size = h := ⟨_, rfl⟩
  have pW : Ps W g B r d v P 0 := hW ▸ p.alloc _
  have bW : Bx W h g v ⟨0, 0, false⟩ := hh ▸ hW ▸ Bx.new p ⟨0, 0, false⟩
  have gW : Go1 g v v w W := hW ▸ (Go1.refl _ _ _).alloc _
  have hDi : (d : Int) + 1 = (D : Int) := by omega
  have hDm : (D : Int) - 1 = (d : Int) := by omega
  have hD100 : D ≤ 100 := by omega
  obtain ⟨W1, hW1⟩ : ∃ W1, W.setCell ⟨g, 1, none⟩ (.int .i64 (D : Int)) = W1 := ⟨_, rfl⟩
  obtain ⟨p1, g1⟩ := pW.setD D (D : Int) rfl
  rw [hW1] at p1 g1
  have PW1 := Lib.hid p1
  have GW1 := Lib.hid (gW.trans g1)
  have BW1 := Lib.hid (bW.go g1)
  have HH := Lib.hid (show w.heap.size ≤ h by omega)
  have HN := Lib.hid (And.intro hn hP)
  have c1 := pW.c1
  have f1 := pW.f1
  have k1 := p1.c1
  rw [hR]
  rw [hD] at hR
  have HD := Lib.hid hD
  clear p pW bW gW p1 g1 hn hP
  by_cases h8 : 8 ≤ d
  · have HR := Lib.hid (show R = .err 9 by rw [← hR]; unfold innF; rw [if_pos h8])
    have h9 : (8 : Int) < (D : Int) := by omega
    rw [HR.out]
    clear hR hD
    go_enter Tryd.func88, Tryd.ntmps88
    go_wp2_with fail
    clear hW hW1 hh c1 f1 k1
    refine (fail_any _ _ _ _ _ _ _ 9 _ PW1.out).mono ?_
    rintro y w2 ⟨rfl, ho⟩
    have P2 := Lib.hid (show Ps w2 g B [] D v P 9 from ho.1)
    have G2 := Lib.hid (GW1.out.trans ho.2)
    have B2 := Lib.hid (BW1.out.go ho.2)
    clear ho
    go_wp2_with fail
    refine (pattern_dead _ _ _ _ _ _ _ P2.out).mono ?_
    rintro y w3 ⟨rfl, ho⟩
    obtain ⟨W3, hW3⟩ : ∃ W3, w3.alloc (.cells #[.int .u64 0, .int .u64 0, .bool true] 50 (0, 0)) = W3 := ⟨_, rfl⟩
    obtain ⟨b, hb⟩ : ∃ b, w3.heap.size = b := ⟨_, rfl⟩
    have P3 := Lib.hid (show Ps W3 g B [] D v P 9 from hW3 ▸ (ho).1.alloc _)
    have G23 := Lib.hid (show Go1 g _ _ _ W3 from hW3 ▸ (ho).2.alloc _)
    have X3 := Lib.hid (show Bx W3 b g _ (⟨0, 0, true⟩ : Pc) from hb ▸ hW3 ▸ Bx.new (ho).1 (⟨0, 0, true⟩ : Pc))
    have G3 := Lib.hid (G2.out.trans G23.out)
    have B3 := Lib.hid (B2.out.go G23.out)
    clear ho G23
    simp only [pcV]
    go_wp2_with fail
    clear hW3 hb
    refine (skip_any _ _ _ _ _ _ _ 41 _ P3.out (by simp)).mono ?_
    rintro y w4 ⟨rfl, ho⟩
    have P4 := Lib.hid (show Ps w4 g B [] D v P 9 from ho.1)
    have G4 := Lib.hid (G3.out.trans ho.2)
    have B4 := Lib.hid (B3.out.go ho.2)
    have X4 := Lib.hid (X3.out.go ho.2)
    clear ho
    simp only [hd]
    go_wp2_with fail
    refine (fail_any _ _ _ _ _ _ _ 27 _ P4.out).mono ?_
    rintro y w5 ⟨rfl, ho⟩
    have P5 := Lib.hid (show Ps w5 g B [] D v P 9 from ho.1)
    have G5 := Lib.hid (G4.out.trans ho.2)
    have B5 := Lib.hid (B4.out.go ho.2)
    have X5 := Lib.hid (X4.out.go ho.2)
    clear ho
    obtain ⟨p9, g9⟩ := P5.out.setD d (d : Int) rfl
    obtain ⟨w9, hw9⟩ : ∃ w9, w5.setCell ⟨g, 1, none⟩ (.int .i64 (d : Int)) = w9 := ⟨_, rfl⟩
    rw [hw9] at p9 g9
    have P9 := Lib.hid p9
    have G9 := Lib.hid (G5.out.trans g9)
    have B9 := Lib.hid (B5.out.go g9)
    obtain ⟨z0, z1, z2, zf0, zf1, zf2⟩ := B9.out.cells
    obtain ⟨x0, x1, x2, xf0, xf1, xf2⟩ := (X5.out.go g9).cells
    have m1 := P5.out.c1
    have m2 := P5.out.f1
    clear p9 g9
    go_wp2_with fail
    refine bodyPost_ret (v := pcV (⟨0, 0, true⟩ : Pc)) (by simp [results, Tryd.results88, go_sem, z0, z1, z2, pcV]) rfl ?_
    have HO := (((show Out g B d v w _ _ _ _ w9 from ⟨P9.out, G9.out⟩).oy B9.out HH.out 0 (.int .u64 ((⟨0, 0, true⟩ : Pc).f : Nat))).oy B9.out HH.out 1 (.int .u64 ((⟨0, 0, true⟩ : Pc).l : Nat))).oy B9.out HH.out 2 (.bool (⟨0, 0, true⟩ : Pc).e)
    exact ⟨by decide, ⟨0, 0, true⟩, v, P, rfl, ⟨by decide, by decide⟩, by have := HN.out; omega, HO⟩
  · have h9 : ¬ (8 : Int) < (D : Int) := by omega
    have HP := Lib.hid (H g B D v P r W1 PW1.out HN.out.1 HN.out.2 (by omega))
    cases hp : patF n D none .eps r with
    | err e =>
      have HR := Lib.hid (show R = .err e by rw [← hR]; unfold innF; rw [if_neg h8]; simp only [hp])
      have HQ := Lib.hid hp
      rw [HR.out]
      clear hR hD hp
      go_enter Tryd.func88, Tryd.ntmps88
      go_wp2_with fail
      clear hW hW1 hh c1 f1 k1
      refine HP.out.mono ?_
      rw [HQ.out]
      rintro y w3 ⟨he, pc, v3, P3', rfl, hpc, hP3, ho⟩
      have HE := Lib.hid he
      have HPC := Lib.hid hpc
      have HP3 := Lib.hid hP3
      clear he hpc hP3
      obtain ⟨W3, hW3⟩ : ∃ W3, w3.alloc (.cells #[.int .u64 (pc.f : Nat), .int .u64 (pc.l : Nat), .bool pc.e] 50 (0, 0)) = W3 := ⟨_, rfl⟩
      obtain ⟨b, hb⟩ : ∃ b, w3.heap.size = b := ⟨_, rfl⟩
      have P3 := Lib.hid (show Ps W3 g B [] D v3 P3' e from hW3 ▸ (ho).1.alloc _)
      have G23 := Lib.hid (show Go1 g _ _ _ W3 from hW3 ▸ (ho).2.alloc _)
      have X3 := Lib.hid (show Bx W3 b g _ pc from hb ▸ hW3 ▸ Bx.new (ho).1 pc)
      have G3 := Lib.hid (GW1.out.trans G23.out)
      have B3 := Lib.hid (BW1.out.go G23.out)
      clear ho G23
      simp only [pcV]
      go_wp2_with fail
      clear hW3 hb
      refine (skip_any _ _ _ _ _ _ _ 41 _ P3.out (by simp)).mono ?_
      rintro y w4 ⟨rfl, ho⟩
      have P4 := Lib.hid (show Ps w4 g B [] D v3 P3' e from ho.1)
      have G4 := Lib.hid (G3.out.trans ho.2)
      have B4 := Lib.hid (B3.out.go ho.2)
      have X4 := Lib.hid (X3.out.go ho.2)
      clear ho
      simp only [hd]
      go_wp2_with fail
      refine (fail_any _ _ _ _ _ _ _ 27 _ P4.out).mono ?_
      rw [if_neg HE.out]
      rintro y w5 ⟨rfl, ho⟩
      have P5 := Lib.hid (show Ps w5 g B [] D v3 P3' e from ho.1)
      have G5 := Lib.hid (G4.out.trans ho.2)
      have B5 := Lib.hid (B4.out.go ho.2)
      have X5 := Lib.hid (X4.out.go ho.2)
      clear ho
      obtain ⟨p9, g9⟩ := P5.out.setD d (d : Int) rfl
      obtain ⟨w9, hw9⟩ : ∃ w9, w5.setCell ⟨g, 1, none⟩ (.int .i64 (d : Int)) = w9 := ⟨_, rfl⟩
      rw [hw9] at p9 g9
      have P9 := Lib.hid p9
      have G9 := Lib.hid (G5.out.trans g9)
      have B9 := Lib.hid (B5.out.go g9)
      obtain ⟨z0, z1, z2, zf0, zf1, zf2⟩ := B9.out.cells
      obtain ⟨x0, x1, x2, xf0, xf1, xf2⟩ := (X5.out.go g9).cells
      have m1 := P5.out.c1
      have m2 := P5.out.f1
      clear p9 g9
      go_wp2_with fail
      refine bodyPost_ret (v := pcV pc) (by simp [results, Tryd.results88, go_sem, z0, z1, z2, pcV]) rfl ?_
      have HO := (((show Out g B d v w _ _ _ _ w9 from ⟨P9.out, G9.out⟩).oy B9.out HH.out 0 (.int .u64 (pc.f : Nat))).oy B9.out HH.out 1 (.int .u64 (pc.l : Nat))).oy B9.out HH.out 2 (.bool pc.e)
      exact ⟨HE.out, pc, v3, P3', rfl, HPC.out, HP3.out, HO⟩
    | ok x q =>
      have HQ := Lib.hid hp
      have hR2 : R = if hd 41 q then .ok x (q.drop 1) else .err 27 := by rw [← hR]; unfold innF; rw [if_neg h8]; simp only [hp]
      clear hR hD hp
      obtain ⟨pc, hpc⟩ : ∃ pc, (glu x P).1 = pc := ⟨_, rfl⟩
      obtain ⟨Q, hQ⟩ : ∃ Q, (glu x P).2 = Q := ⟨_, rfl⟩
      have HPC := Lib.hid hpc
      have HQQ := Lib.hid hQ
      clear hpc hQ
      cases hz : hd 41 q with
      | true =>
        have HZ := Lib.hid hz
        have HR := Lib.hid (show R = .ok x (q.drop 1) by rw [hR2, hz]; rfl)
        rw [HR.out]
        clear hR2 hz
        go_enter Tryd.func88, Tryd.ntmps88
        go_wp2_with fail
        clear hW hW1 hh c1 f1 k1
        refine HP.out.mono ?_
        rw [HQ.out]
        simp only [PatP]
        rw [HPC.out, HQQ.out]
        rintro y w3 ⟨rfl, hok, hlen, v3, ho⟩
        have HOK := Lib.hid hok
        have HLEN := Lib.hid hlen
        clear hok hlen
        obtain ⟨W3, hW3⟩ : ∃ W3, w3.alloc (.cells #[.int .u64 (pc.f : Nat), .int .u64 (pc.l : Nat), .bool pc.e] 50 (0, 0)) = W3 := ⟨_, rfl⟩
        obtain ⟨b, hb⟩ : ∃ b, w3.heap.size = b := ⟨_, rfl⟩
        have P3 := Lib.hid (show Ps W3 g B q D v3 Q 0 from hW3 ▸ (ho).1.alloc _)
        have G23 := Lib.hid (show Go1 g _ _ _ W3 from hW3 ▸ (ho).2.alloc _)
        have X3 := Lib.hid (show Bx W3 b g _ pc from hb ▸ hW3 ▸ Bx.new (ho).1 pc)
        have G3 := Lib.hid (GW1.out.trans G23.out)
        have B3 := Lib.hid (BW1.out.go G23.out)
        clear ho G23
        simp only [pcV]
        go_wp2_with fail
        clear hW3 hb
        refine (skip_any _ _ _ _ _ _ _ 41 _ P3.out (by have := HLEN.out; omega)).mono ?_
        rw [HZ.out]
        rintro y w4 ⟨rfl, ho⟩
        simp only [if_true] at ho
        obtain ⟨q1, hq1⟩ : ∃ q1, q.drop 1 = q1 := ⟨_, rfl⟩
        rw [hq1] at ho
        have HQ1 := Lib.hid hq1
        clear hq1
        have P4 := Lib.hid (show Ps w4 g B q1 D v3 Q 0 from ho.1)
        have G4 := Lib.hid (G3.out.trans ho.2)
        have B4 := Lib.hid (B3.out.go ho.2)
        have X4 := Lib.hid (X3.out.go ho.2)
        clear ho
        obtain ⟨p9, g9⟩ := P4.out.setD d (d : Int) rfl
        obtain ⟨w9, hw9⟩ : ∃ w9, w4.setCell ⟨g, 1, none⟩ (.int .i64 (d : Int)) = w9 := ⟨_, rfl⟩
        rw [hw9] at p9 g9
        have P9 := Lib.hid p9
        have G9 := Lib.hid (G4.out.trans g9)
        have B9 := Lib.hid (B4.out.go g9)
        obtain ⟨z0, z1, z2, zf0, zf1, zf2⟩ := B9.out.cells
        obtain ⟨x0, x1, x2, xf0, xf1, xf2⟩ := (X4.out.go g9).cells
        have m1 := P4.out.c1
        have m2 := P4.out.f1
        clear p9 g9
        go_wp2_with fail
        refine bodyPost_ret (v := pcV pc) (by simp [results, Tryd.results88, go_sem, z0, z1, z2, pcV]) rfl ?_
        have HO := (((show Out g B d v w _ _ _ _ w9 from ⟨P9.out, G9.out⟩).oy B9.out HH.out 0 (.int .u64 (pc.f : Nat))).oy B9.out HH.out 1 (.int .u64 (pc.l : Nat))).oy B9.out HH.out 2 (.bool pc.e)
        simp only [PatP]
        rw [HPC.out, HQQ.out, HQ1.out]
        refine ⟨rfl, HOK.out, ?_, v3, HO⟩
        have h1 := HLEN.out
        have h2 := congrArg List.length HQ1.out
        rw [List.length_drop] at h2
        omega
      | false =>
        have HZ := Lib.hid hz
        have HR := Lib.hid (show R = .err 27 by rw [hR2, hz]; rfl)
        rw [HR.out]
        clear hR2 hz
        go_enter Tryd.func88, Tryd.ntmps88
        go_wp2_with fail
        clear hW hW1 hh c1 f1 k1
        refine HP.out.mono ?_
        rw [HQ.out]
        simp only [PatP]
        rw [HPC.out, HQQ.out]
        rintro y w3 ⟨rfl, hok, hlen, v3, ho⟩
        have HOK := Lib.hid hok
        have HLEN := Lib.hid hlen
        clear hok hlen
        obtain ⟨W3, hW3⟩ : ∃ W3, w3.alloc (.cells #[.int .u64 (pc.f : Nat), .int .u64 (pc.l : Nat), .bool pc.e] 50 (0, 0)) = W3 := ⟨_, rfl⟩
        obtain ⟨b, hb⟩ : ∃ b, w3.heap.size = b := ⟨_, rfl⟩
        have P3 := Lib.hid (show Ps W3 g B q D v3 Q 0 from hW3 ▸ (ho).1.alloc _)
        have G23 := Lib.hid (show Go1 g _ _ _ W3 from hW3 ▸ (ho).2.alloc _)
        have X3 := Lib.hid (show Bx W3 b g _ pc from hb ▸ hW3 ▸ Bx.new (ho).1 pc)
        have G3 := Lib.hid (GW1.out.trans G23.out)
        have B3 := Lib.hid (BW1.out.go G23.out)
        clear ho G23
        simp only [pcV]
        go_wp2_with fail
        clear hW3 hb
        refine (skip_any _ _ _ _ _ _ _ 41 _ P3.out (by have := HLEN.out; omega)).mono ?_
        rw [HZ.out]
        rintro y w4 ⟨rfl, ho⟩
        simp only [Bool.false_eq_true, if_false] at ho
        have P4 := Lib.hid (show Ps w4 g B q D v3 Q 0 from ho.1)
        have G4 := Lib.hid (G3.out.trans ho.2)
        have B4 := Lib.hid (B3.out.go ho.2)
        have X4 := Lib.hid (X3.out.go ho.2)
        clear ho
        go_wp2_with fail
        refine (fail_any _ _ _ _ _ _ _ 27 _ P4.out).mono ?_
        rintro y w5 ⟨rfl, ho⟩
        have P5 := Lib.hid (show Ps w5 g B [] D v3 Q 27 from ho.1)
        have G5 := Lib.hid (G4.out.trans ho.2)
        have B5 := Lib.hid (B4.out.go ho.2)
        have X5 := Lib.hid (X4.out.go ho.2)
        clear ho
        obtain ⟨p9, g9⟩ := P5.out.setD d (d : Int) rfl
        obtain ⟨w9, hw9⟩ : ∃ w9, w5.setCell ⟨g, 1, none⟩ (.int .i64 (d : Int)) = w9 := ⟨_, rfl⟩
        rw [hw9] at p9 g9
        have P9 := Lib.hid p9
        have G9 := Lib.hid (G5.out.trans g9)
        have B9 := Lib.hid (B5.out.go g9)
        obtain ⟨z0, z1, z2, zf0, zf1, zf2⟩ := B9.out.cells
        obtain ⟨x0, x1, x2, xf0, xf1, xf2⟩ := (X5.out.go g9).cells
        have m1 := P5.out.c1
        have m2 := P5.out.f1
        clear p9 g9
        go_wp2_with fail
        refine bodyPost_ret (v := pcV pc) (by simp [results, Tryd.results88, go_sem, z0, z1, z2, pcV]) rfl ?_
        have HO := (((show Out g B d v w _ _ _ _ w9 from ⟨P9.out, G9.out⟩).oy B9.out HH.out 0 (.int .u64 (pc.f : Nat))).oy B9.out HH.out 1 (.int .u64 (pc.l : Nat))).oy B9.out HH.out 2 (.bool pc.e)
        exact ⟨by decide, pc, v3, Q, rfl, HOK.out, by have := HLEN.out; omega, HO⟩
end Go.Proofs.YtnabfganecghkaaDoor
