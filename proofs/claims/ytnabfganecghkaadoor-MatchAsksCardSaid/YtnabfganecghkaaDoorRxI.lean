/- An item of a class. -/
import Derived.Test.YtnabfganecghkaaDoorRxH
namespace Go.Proofs.YtnabfganecghkaaDoor
open Go.RowKit
set_option linter.unusedVariables false

set_option maxHeartbeats 1000000 in
theorem item_any (X : Nat → Bool) (g B : Nat) (l : List UInt8) (d : Nat) (v : Value) (P : List Pl) (w : World) (p : Ps w g B l d v P 0) (hl : l.length ≤ 1000) :
    Calls Tryd.prog 90 #[.pointer (some ⟨g, 0, none⟩), setV X] w fun y w' => ItP (itemF X l) g B d v w P y w' := by
  obtain ⟨W, hW⟩ : ∃ W, (w.alloc (.cells #[.int .u64 (wd X 0 : Nat), .int .u64 (wd X 1 : Nat), .int .u64 (wd X 2 : Nat), .int .u64 (wd X 3 : Nat)] 102 (0, 0))).alloc (.cells #[.int .u64 0, .int .u64 0, .int .u64 0, .int .u64 0] 102 (0, 0)) = W := ⟨_, rfl⟩
  obtain ⟨h, hh⟩ : ∃ h, w.heap.size = h := ⟨_, rfl⟩
  have PW := Lib.hid (show Ps W g B l d v P 0 from hW ▸ (p.alloc _).alloc _)
  have B1 := Lib.hid (show Sb W h g v X from hh ▸ hW ▸ (Sb.new p X).alloc _)
  have hz : (w.alloc (.cells #[.int .u64 (wd X 0 : Nat), .int .u64 (wd X 1 : Nat), .int .u64 (wd X 2 : Nat), .int .u64 (wd X 3 : Nat)] 102 (0, 0))).heap.size = h + 1 := by simp [hh]
  have B2 := Lib.hid (show Sb W (h + 1) g v noX by
    have := Sb.new (p.alloc (.cells #[.int .u64 (wd X 0 : Nat), .int .u64 (wd X 1 : Nat), .int .u64 (wd X 2 : Nat), .int .u64 (wd X 3 : Nat)] 102 (0, 0))) noX
    rw [hz] at this
    exact hW ▸ this)
  have GW := Lib.hid (show Go1 g v v w W from hW ▸ ((Go1.refl _ _ _).alloc _).alloc _)
  have HH := Lib.hid (show w.heap.size ≤ h + 1 by omega)
  clear hz p
  cases hm : memF l with
  | none =>
    have HM := Lib.hid hm
    have HL0 := Lib.hid hl
    have HE := Lib.hid (show itemF X l = none by unfold itemF; rw [hm])
    rw [HE.out]
    clear hm hl
    unfold setV
    go_enter Tryd.func90, Tryd.ntmps90
    go_wp2_with fail
    clear hW hh
    refine (member_any _ _ _ _ _ _ _ _ PW.out HL0.out).mono ?_
    rw [HM.out]
    rintro y w1 ⟨rfl, hm⟩
    have P1 := Lib.hid (show Ps w1 g B [] d v P 27 from hm.1)
    have G1 := Lib.hid (show Go1 g v v W w1 from hm.2)
    clear hm
    obtain ⟨a, ha⟩ : ∃ a, memR none = a := ⟨_, rfl⟩
    rw [ha]
    clear ha
    go_wp2_with fail
    refine (skip_any _ _ _ _ _ _ _ 45 _ P1.out (by simp)).mono ?_
    rintro y w2 ⟨rfl, ho⟩
    have P2 := Lib.hid (show Ps w2 g B [] d v P 27 from ho.1)
    have G2 := Lib.hid (G1.out.trans ho.2)
    clear ho
    simp only [hd]
    have hab : ¬ ((a.toNat : Int) < (a.toNat : Int)) := by omega
    obtain ⟨⟨q0, q1, q2, q3⟩, _⟩ := (B1.out.go G2.out).cells
    go_wp2_with fail
    refine (with_any X a a _).mono ?_
    rintro y w5 ⟨rfl, hb5⟩
    have G5 := Lib.hid (G2.out.trans (Go1.of_below (g := g) (v := v) hb5))
    have P5 := Lib.hid (P2.out.below hb5)
    obtain ⟨⟨r0, r1, r2, r3⟩, s0, s1, s2, s3⟩ := (B2.out.go G5.out).cells
    clear hb5 q0 q1 q2 q3
    unfold setV
    go_wp2_with fail
    refine bodyPost_ret (v := setV (withX X a.toNat a.toNat)) (by simp [results, Tryd.results90, go_sem, r0, r1, r2, r3, setV]) rfl ?_
    exact ⟨_, rfl, P5.out.put4 (B2.out.hg) (B2.out.hv) _, (GW.out.trans G5.out).put4 HH.out _⟩
  | some m =>
    obtain ⟨a, l1⟩ := m
    have hl1 := memF_len hm
    have HM := Lib.hid hm
    have HL0 := Lib.hid hl
    have HL1 := Lib.hid (show l1.length ≤ 1000 by omega)
    cases hs : hd 45 l1 with
    | false =>
      have HS := Lib.hid hs
      have HE := Lib.hid (show itemF X l = some (withX X a.toNat a.toNat, l1) by
        unfold itemF
        rw [hm]
        simp only
        rw [toF_no hs]
        simp)
      rw [HE.out]
      clear hm hl hs hl1
      unfold setV
      go_enter Tryd.func90, Tryd.ntmps90
      go_wp2_with fail
      clear hW hh
      refine (member_any _ _ _ _ _ _ _ _ PW.out HL0.out).mono ?_
      rw [HM.out]
      rintro y w1 ⟨rfl, hm⟩
      have P1 := Lib.hid (show Ps w1 g B l1 d v P 0 from hm.1)
      have G1 := Lib.hid (show Go1 g v v W w1 from hm.2)
      clear hm
      simp only [memR]
      go_wp2_with fail
      refine (skip_any _ _ _ _ _ _ _ 45 _ P1.out HL1.out).mono ?_
      rw [HS.out]
      rintro y w2 ⟨rfl, ho⟩
      simp only [Bool.false_eq_true, if_false] at ho
      have P2 := Lib.hid ho.1
      have G2 := Lib.hid (G1.out.trans ho.2)
      clear ho
      have hab : ¬ ((a.toNat : Int) < (a.toNat : Int)) := by omega
      obtain ⟨⟨q0, q1, q2, q3⟩, _⟩ := (B1.out.go G2.out).cells
      go_wp2_with fail
      refine (with_any X a a _).mono ?_
      rintro y w5 ⟨rfl, hb5⟩
      have G5 := Lib.hid (G2.out.trans (Go1.of_below (g := g) (v := v) hb5))
      have P5 := Lib.hid (P2.out.below hb5)
      obtain ⟨⟨r0, r1, r2, r3⟩, s0, s1, s2, s3⟩ := (B2.out.go G5.out).cells
      clear hb5 q0 q1 q2 q3
      unfold setV
      go_wp2_with fail
      refine bodyPost_ret (v := setV (withX X a.toNat a.toNat)) (by simp [results, Tryd.results90, go_sem, r0, r1, r2, r3, setV]) rfl ?_
      exact ⟨rfl, P5.out.put4 (B2.out.hg) (B2.out.hv) _, (GW.out.trans G5.out).put4 HH.out _⟩
    | true =>
      have HS := Lib.hid hs
      have hl2 := hd_drop hs
      obtain ⟨l2, hl2e⟩ : ∃ l2, l1.drop 1 = l2 := ⟨_, rfl⟩
      rw [hl2e] at hl2
      have HD := Lib.hid hl2e
      have HL2 := Lib.hid (show l2.length ≤ 1000 by omega)
      have HT := Lib.hid (show toF a l1 = memF l2 by rw [toF_yes hs, hl2e])
      cases hm2 : memF l2 with
      | none =>
        have HM2 := Lib.hid hm2
        have HE := Lib.hid (show itemF X l = none by
          unfold itemF
          rw [hm]
          simp only
          rw [HT.out, hm2])
        rw [HE.out]
        clear hm hl hs hl1 hl2 hl2e hm2
        unfold setV
        go_enter Tryd.func90, Tryd.ntmps90
        go_wp2_with fail
        clear hW hh
        refine (member_any _ _ _ _ _ _ _ _ PW.out HL0.out).mono ?_
        rw [HM.out]
        rintro y w1 ⟨rfl, hm⟩
        have P1 := Lib.hid (show Ps w1 g B l1 d v P 0 from hm.1)
        have G1 := Lib.hid (show Go1 g v v W w1 from hm.2)
        clear hm
        simp only [memR]
        go_wp2_with fail
        refine (skip_any _ _ _ _ _ _ _ 45 _ P1.out HL1.out).mono ?_
        rw [HS.out]
        rintro y w2 ⟨rfl, ho⟩
        simp only [if_true] at ho
        rw [HD.out] at ho
        have P2 := Lib.hid ho.1
        have G2 := Lib.hid (G1.out.trans ho.2)
        clear ho
        go_wp2_with fail
        refine (member_any _ _ _ _ _ _ _ _ P2.out HL2.out).mono ?_
        rw [HM2.out]
        rintro y w3 ⟨rfl, hm⟩
        have P3 := Lib.hid (show Ps w3 g B [] d v P 27 from hm.1)
        have G3 := Lib.hid (show Go1 g v v W w3 from G2.out.trans hm.2)
        clear hm
        obtain ⟨b, hb⟩ : ∃ b, memR none = b := ⟨_, rfl⟩
        rw [hb]
        clear hb
        by_cases hab : (b.toNat : Int) < (a.toNat : Int)
        · go_wp2_with fail
          refine (fail_any _ _ _ _ _ _ _ _ _ P3.out).mono ?_
          rintro y w4 ⟨rfl, ho⟩
          have P4 := Lib.hid (show Ps w4 g B [] d v P 27 from ho.1)
          have G4 := Lib.hid (G3.out.trans ho.2)
          clear ho
          obtain ⟨⟨q0, q1, q2, q3⟩, _⟩ := (B1.out.go G4.out).cells
          go_wp2_with fail
          refine (with_any X a b _).mono ?_
          rintro y w5 ⟨rfl, hb5⟩
          have G5 := Lib.hid (G4.out.trans (Go1.of_below (g := g) (v := v) hb5))
          have P5 := Lib.hid (P4.out.below hb5)
          obtain ⟨⟨r0, r1, r2, r3⟩, s0, s1, s2, s3⟩ := (B2.out.go G5.out).cells
          clear hb5 q0 q1 q2 q3
          unfold setV
          go_wp2_with fail
          refine bodyPost_ret (v := setV (withX X a.toNat b.toNat)) (by simp [results, Tryd.results90, go_sem, r0, r1, r2, r3, setV]) rfl ?_
          exact ⟨_, rfl, P5.out.put4 (B2.out.hg) (B2.out.hv) _, (GW.out.trans G5.out).put4 HH.out _⟩
        · obtain ⟨⟨q0, q1, q2, q3⟩, _⟩ := (B1.out.go G3.out).cells
          go_wp2_with fail
          refine (with_any X a b _).mono ?_
          rintro y w5 ⟨rfl, hb5⟩
          have G5 := Lib.hid (G3.out.trans (Go1.of_below (g := g) (v := v) hb5))
          have P5 := Lib.hid (P3.out.below hb5)
          obtain ⟨⟨r0, r1, r2, r3⟩, s0, s1, s2, s3⟩ := (B2.out.go G5.out).cells
          clear hb5 q0 q1 q2 q3
          unfold setV
          go_wp2_with fail
          refine bodyPost_ret (v := setV (withX X a.toNat b.toNat)) (by simp [results, Tryd.results90, go_sem, r0, r1, r2, r3, setV]) rfl ?_
          exact ⟨_, rfl, P5.out.put4 (B2.out.hg) (B2.out.hv) _, (GW.out.trans G5.out).put4 HH.out _⟩
      | some m2 =>
        obtain ⟨b, l3⟩ := m2
        have HM2 := Lib.hid hm2
        by_cases hab : b.toNat < a.toNat
        · have HE := Lib.hid (show itemF X l = none by
            unfold itemF
            rw [hm]
            simp only
            rw [HT.out, hm2]
            simp only
            rw [if_pos hab])
          have habi : (b.toNat : Int) < (a.toNat : Int) := by omega
          rw [HE.out]
          clear hm hl hs hl1 hl2 hl2e hm2 hab
          unfold setV
          go_enter Tryd.func90, Tryd.ntmps90
          go_wp2_with fail
          clear hW hh
          refine (member_any _ _ _ _ _ _ _ _ PW.out HL0.out).mono ?_
          rw [HM.out]
          rintro y w1 ⟨rfl, hm⟩
          have P1 := Lib.hid (show Ps w1 g B l1 d v P 0 from hm.1)
          have G1 := Lib.hid (show Go1 g v v W w1 from hm.2)
          clear hm
          simp only [memR]
          go_wp2_with fail
          refine (skip_any _ _ _ _ _ _ _ 45 _ P1.out HL1.out).mono ?_
          rw [HS.out]
          rintro y w2 ⟨rfl, ho⟩
          simp only [if_true] at ho
          rw [HD.out] at ho
          have P2 := Lib.hid ho.1
          have G2 := Lib.hid (G1.out.trans ho.2)
          clear ho
          go_wp2_with fail
          refine (member_any _ _ _ _ _ _ _ _ P2.out HL2.out).mono ?_
          rw [HM2.out]
          rintro y w3 ⟨rfl, hm⟩
          have P3 := Lib.hid (show Ps w3 g B l3 d v P 0 from hm.1)
          have G3 := Lib.hid (show Go1 g v v W w3 from G2.out.trans hm.2)
          clear hm
          simp only [memR]
          go_wp2_with fail
          refine (fail_any _ _ _ _ _ _ _ 27 _ P3.out).mono ?_
          rintro y w4 ⟨rfl, ho⟩
          have P4 := Lib.hid (show Ps w4 g B [] d v P 27 from ho.1)
          have G4 := Lib.hid (G3.out.trans ho.2)
          clear ho
          obtain ⟨⟨q0, q1, q2, q3⟩, _⟩ := (B1.out.go G4.out).cells
          go_wp2_with fail
          refine (with_any X a b _).mono ?_
          rintro y w5 ⟨rfl, hb5⟩
          have G5 := Lib.hid (G4.out.trans (Go1.of_below (g := g) (v := v) hb5))
          have P5 := Lib.hid (P4.out.below hb5)
          obtain ⟨⟨r0, r1, r2, r3⟩, s0, s1, s2, s3⟩ := (B2.out.go G5.out).cells
          clear hb5 q0 q1 q2 q3
          unfold setV
          go_wp2_with fail
          refine bodyPost_ret (v := setV (withX X a.toNat b.toNat)) (by simp [results, Tryd.results90, go_sem, r0, r1, r2, r3, setV]) rfl ?_
          exact ⟨_, rfl, P5.out.put4 (B2.out.hg) (B2.out.hv) _, (GW.out.trans G5.out).put4 HH.out _⟩
        · have HE := Lib.hid (show itemF X l = some (withX X a.toNat b.toNat, l3) by
            unfold itemF
            rw [hm]
            simp only
            rw [HT.out, hm2]
            simp only
            rw [if_neg hab])
          have habi : ¬ ((b.toNat : Int) < (a.toNat : Int)) := by omega
          rw [HE.out]
          clear hm hl hs hl1 hl2 hl2e hm2 hab
          unfold setV
          go_enter Tryd.func90, Tryd.ntmps90
          go_wp2_with fail
          clear hW hh
          refine (member_any _ _ _ _ _ _ _ _ PW.out HL0.out).mono ?_
          rw [HM.out]
          rintro y w1 ⟨rfl, hm⟩
          have P1 := Lib.hid (show Ps w1 g B l1 d v P 0 from hm.1)
          have G1 := Lib.hid (show Go1 g v v W w1 from hm.2)
          clear hm
          simp only [memR]
          go_wp2_with fail
          refine (skip_any _ _ _ _ _ _ _ 45 _ P1.out HL1.out).mono ?_
          rw [HS.out]
          rintro y w2 ⟨rfl, ho⟩
          simp only [if_true] at ho
          rw [HD.out] at ho
          have P2 := Lib.hid ho.1
          have G2 := Lib.hid (G1.out.trans ho.2)
          clear ho
          go_wp2_with fail
          refine (member_any _ _ _ _ _ _ _ _ P2.out HL2.out).mono ?_
          rw [HM2.out]
          rintro y w3 ⟨rfl, hm⟩
          have P3 := Lib.hid (show Ps w3 g B l3 d v P 0 from hm.1)
          have G3 := Lib.hid (show Go1 g v v W w3 from G2.out.trans hm.2)
          clear hm
          simp only [memR]
          obtain ⟨⟨q0, q1, q2, q3⟩, _⟩ := (B1.out.go G3.out).cells
          go_wp2_with fail
          refine (with_any X a b _).mono ?_
          rintro y w5 ⟨rfl, hb5⟩
          have G5 := Lib.hid (G3.out.trans (Go1.of_below (g := g) (v := v) hb5))
          have P5 := Lib.hid (P3.out.below hb5)
          obtain ⟨⟨r0, r1, r2, r3⟩, s0, s1, s2, s3⟩ := (B2.out.go G5.out).cells
          clear hb5 q0 q1 q2 q3
          unfold setV
          go_wp2_with fail
          refine bodyPost_ret (v := setV (withX X a.toNat b.toNat)) (by simp [results, Tryd.results90, go_sem, r0, r1, r2, r3, setV]) rfl ?_
          exact ⟨rfl, P5.out.put4 (B2.out.hg) (B2.out.hv) _, (GW.out.trans G5.out).put4 HH.out _⟩
end Go.Proofs.YtnabfganecghkaaDoor
