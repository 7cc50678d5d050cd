/- A class. -/
import Derived.Test.YtnabfganecghkaaDoorRxI
namespace Go.Proofs.YtnabfganecghkaaDoor
open Go.RowKit
set_option linter.unusedVariables false

theorem wd_no (i : Nat) : wd noX i = 0 := by
  apply Nat.eq_of_testBit_eq
  intro j
  rw [wd_test]
  simp [noX]
theorem setV_no : setV noX = .agg #[.int .u64 0, .int .u64 0, .int .u64 0, .int .u64 0] := by
  unfold setV
  rw [wd_no, wd_no, wd_no, wd_no]
  rfl
theorem item0_any (g B : Nat) (l : List UInt8) (d : Nat) (v : Value) (P : List Pl) (w : World) (p : Ps w g B l d v P 0) (hl : l.length ≤ 1000) :
    Calls Tryd.prog 90 #[.pointer (some ⟨g, 0, none⟩), .agg #[.int .u64 0, .int .u64 0, .int .u64 0, .int .u64 0]] w fun y w' => ItP (itemF noX l) g B d v w P y w' :=
  setV_no ▸ item_any noX g B l d v P w p hl
def notO (o : Option ((Nat → Bool) × List UInt8)) : Option ((Nat → Bool) × List UInt8) := match o with
  | none => none
  | some p => some (notX p.1, p.2)
/-- how far the loop has come -/
def msr (g : Nat) (w : World) : Nat := (match w.cell? ⟨g, 0, none⟩ with
  | some (.string s) => s.size
  | _ => 0) * 2 + (match w.cell? ⟨g, 3, none⟩ with
  | some (.int _ e) => if e = 0 then 1 else 0
  | _ => 0)
theorem msr_ps {w : World} {g B : Nat} {l : List UInt8} {d : Nat} {v : Value} {P : List Pl} {e : Int} (p : Ps w g B l d v P e) : msr g w = l.length * 2 + if e = 0 then 1 else 0 := by
  unfold msr
  rw [p.c0, p.c3]
  simp only [tx_size]
/-- behind each round of the class's loop: alive, with what is left to read; or none -/
def ClRel (g B d : Nat) (v : Value) (P : List Pl) (W : World) (h b : Nat) (R : Option ((Nat → Bool) × List UInt8)) (wr : World) : Prop :=
  Go1 g v v W wr ∧ Sb wr h g v noX ∧
  ((∃ X n l, clsF n X l = R ∧ l.length < n ∧ l.length ≤ 1000 ∧ Ps wr g B l d v P 0 ∧ Sb wr b g v X) ∨ (R = none ∧ Ps wr g B [] d v P 27 ∧ ∃ X, Sb wr b g v X))
theorem clsF_end {n : Nat} {X : Nat → Bool} {l : List UInt8} (hn : l.length < n) (h : hd 93 l = true) : clsF n X l = some (X, l.drop 1) := by
  obtain ⟨m, rfl⟩ : ∃ m, n = m + 1 := ⟨n - 1, by omega⟩
  unfold clsF
  rw [if_pos h]
theorem clsF_bad {n : Nat} {X : Nat → Bool} {l : List UInt8} (hn : l.length < n) (h : hd 93 l = false) (hi : itemF X l = none) : clsF n X l = none := by
  obtain ⟨m, rfl⟩ : ∃ m, n = m + 1 := ⟨n - 1, by omega⟩
  unfold clsF
  rw [if_neg (by rw [h]; simp), hi]
theorem clsF_on {n : Nat} {X Y : Nat → Bool} {l q : List UInt8} (hn : l.length < n) (h : hd 93 l = false) (hi : itemF X l = some (Y, q)) : ∃ m, q.length < m ∧ clsF n X l = clsF m Y q := by
  obtain ⟨m, rfl⟩ : ∃ m, n = m + 1 := ⟨n - 1, by omega⟩
  refine ⟨m, by have := itemF_len hi; omega, ?_⟩
  rw [clsF, if_neg (by rw [h]; simp), hi]

set_option maxHeartbeats 2000000 in
theorem class_pos (g B : Nat) (l : List UInt8) (d : Nat) (v : Value) (P : List Pl) (w : World) (p : Ps w g B l d v P 0) (hl : l.length ≤ 1000) (hs : hd 94 l = false) :
    Calls Tryd.prog 87 #[.pointer (some ⟨g, 0, none⟩)] w fun y w' => ItP (classF l) g B d v w P y w' := by
  obtain ⟨R, hR⟩ : ∃ R, insF l = R := ⟨_, rfl⟩
  obtain ⟨F, hF⟩ : ∃ F, classF l = F := ⟨_, rfl⟩
  have HF := Lib.hid (show F = R by rw [← hF, ← hR]; unfold classF; rw [if_neg (by rw [hs]; simp)])
  rw [hF]
  obtain ⟨W, hW⟩ : ∃ W, w.alloc (.cells #[.int .u64 0, .int .u64 0, .int .u64 0, .int .u64 0] 102 (0, 0)) = W := ⟨_, rfl⟩
  obtain ⟨h, hh⟩ : ∃ h, w.heap.size = h := ⟨_, rfl⟩
  have PW := Lib.hid (show Ps W g B l d v P 0 from hW ▸ p.alloc _)
  have B2 := Lib.hid (show Sb W h g v noX from hh ▸ hW ▸ Sb.new p noX)
  have GW := Lib.hid (show Go1 g v v w W from hW ▸ (Go1.refl _ _ _).alloc _)
  have HH := Lib.hid (show w.heap.size ≤ h by omega)
  have HS := Lib.hid hs
  have HL := Lib.hid hl
  obtain ⟨l1, hl1⟩ : ∃ l1, (if hd 94 l = true then l.drop 1 else l) = l1 := ⟨_, rfl⟩
  have HL1 := Lib.hid (show l1.length ≤ 1000 by
    rw [← hl1]
    split
    · rw [List.length_drop]; omega
    · first | exact hl | (rw [List.length_drop]; omega))
  have HI := Lib.hid (show insF l1 = R by rw [← hl1, hs]; exact hR)
  have HLL := Lib.hid (show l = l1 by rw [← hl1, hs]; rfl)
  clear p hl hs hR hF hl1
  go_enter Tryd.func87, Tryd.ntmps87
  go_wp2_with fail
  clear hW hh
  refine (skip_any _ _ _ _ _ _ _ 94 _ PW.out HL.out).mono ?_
  rw [HS.out]
  rintro y w1 ⟨rfl, ho⟩
  simp only [Bool.false_eq_true, if_false] at ho
  rw [HLL.out] at ho
  have P1 := Lib.hid ho.1
  have G1 := Lib.hid ho.2
  clear ho
  go_wp2_with fail
  refine (item0_any _ _ _ _ _ _ _ P1.out HL1.out).mono ?_
  intro y w2 hit
  have hsz : w1.heap.size ≤ w2.heap.size := by
    cases hi : itemF noX l1 with
    | none =>
      rw [hi] at hit
      obtain ⟨Y, _, ho⟩ := hit
      exact ho.2.size
    | some m =>
      rw [hi] at hit
      exact hit.2.2.size
  obtain ⟨Y, W3, hy, HR0⟩ : ∃ Y W3, y = .returned (setV Y) ∧ W3 = w2.alloc (.cells (stA Y) 102 (0, 0)) ∧ Hid (ClRel g B d v P W h w2.heap.size R W3) := by
    cases hi : itemF noX l1 with
    | none =>
      rw [hi] at hit
      obtain ⟨Y, rfl, ho⟩ := hit
      have g2 : Go1 g v v W w2 := G1.out.trans ho.2
      refine ⟨Y, _, rfl, rfl, Lib.hid ⟨g2.alloc _, (B2.out.go g2).alloc _, .inr ⟨?_, ho.1.alloc _, Y, Sb.new ho.1 Y⟩⟩⟩
      rw [← HI.out]
      unfold insF
      rw [hi]
    | some m =>
      obtain ⟨Y, q⟩ := m
      rw [hi] at hit
      obtain ⟨rfl, ho⟩ := hit
      have g2 : Go1 g v v W w2 := G1.out.trans ho.2
      have := itemF_len hi
      have := HL1.out
      refine ⟨Y, _, rfl, rfl, Lib.hid ⟨g2.alloc _, (B2.out.go g2).alloc _, .inl ⟨Y, q.length + 1, q, ?_, by omega, by omega, ho.1.alloc _, Sb.new ho.1 Y⟩⟩⟩
      rw [← HI.out]
      unfold insF
      rw [hi]
  subst hy
  obtain ⟨hW3, HR⟩ := HR0
  have HSZ := Lib.hid (show w1.heap.size ≤ w2.heap.size from hsz)
  clear hit
  unfold setV
  unfold stA at hW3
  obtain ⟨b, hb⟩ : ∃ b, w2.heap.size = b := ⟨_, rfl⟩
  rw [hb] at HR
  have HHB := Lib.hid (show b ≠ h by
    have h1 := B2.out.s.hw
    have h2 := G1.out.size
    have h3 := HSZ.out
    omega)
  have HWB := Lib.hid (show W.heap.size ≤ b by
    have h2 := G1.out.size
    have h3 := HSZ.out
    omega)
  have hW3' := hW3.symm
  clear hW3
  go_wp2_with fail
  clear hW3'
  go_loopw [] (fun wr => Hid (ClRel g B d v P W h b R wr)) (fun wr => msr g wr)
  case atStart => exact HR
  case round =>
    obtain ⟨gr, br, hx⟩ := hrel.out
    have GR := Lib.hid gr
    have BR := Lib.hid br
    clear gr br hrel HR
    rcases hx with ⟨X, n, l', hc, hn, hl', pr, sb⟩ | ⟨hr, pr, X, sb⟩
    · have c3 := pr.c3
      have PR := Lib.hid pr
      have SB := Lib.hid sb
      have HC := Lib.hid hc
      have HLN := Lib.hid (And.intro hn hl')
      have MS := Lib.hid (msr_ps pr)
      clear pr sb hc hn hl'
      cases hz : hd 93 l' with
      | true =>
        have HZ := Lib.hid hz
        clear hz
        go_wp2_with fail
        refine (skip_any _ _ _ _ _ _ _ 93 _ PR.out HLN.out.2).mono ?_
        rw [HZ.out]
        rintro y w4 ⟨rfl, ho⟩
        simp only [if_true] at ho
        have PE := Lib.hid ho.1
        have GE := Lib.hid (GR.out.trans ho.2)
        obtain ⟨⟨q0, q1, q2, q3⟩, _⟩ := (SB.out.go ho.2).cells
        have HE := Lib.hid (show R = some (X, l'.drop 1) by rw [← HC.out, clsF_end HLN.out.1 HZ.out])
        clear ho c3
        have G5 := Lib.hid GE.out
        have P5 := Lib.hid PE.out
        obtain ⟨⟨r0, r1, r2, r3⟩, s0, s1, s2, s3⟩ := (B2.out.go G5.out).cells
        go_wp2_with fail
        refine bodyPost_ret (v := setV X) (by simp [results, Tryd.results87, go_sem, r0, r1, r2, r3, setV]) rfl ?_
        rw [HF.out, HE.out]
        exact ⟨rfl, P5.out.put4 (B2.out.hg) (B2.out.hv) _, (GW.out.trans G5.out).put4 HH.out _⟩
      | false =>
        have HZ := Lib.hid hz
        clear hz
        go_wp2_with fail
        refine (skip_any _ _ _ _ _ _ _ 93 _ PR.out HLN.out.2).mono ?_
        rw [HZ.out]
        rintro y w4 ⟨rfl, ho⟩
        simp only [Bool.false_eq_true, if_false] at ho
        have P4 := Lib.hid ho.1
        have G4 := Lib.hid (GR.out.trans ho.2)
        have S4 := Lib.hid (SB.out.go ho.2)
        clear ho c3
        obtain ⟨⟨q0, q1, q2, q3⟩, _⟩ := S4.out.cells
        go_wp2_with fail
        refine (item_any X _ _ _ _ _ _ _ P4.out HLN.out.2).mono ?_
        intro y w5 hit
        clear q0 q1 q2 q3
        obtain ⟨Y, hy, g5, HR0⟩ : ∃ Y, y = .returned (setV Y) ∧ Go1 g v v w4 w5 ∧ Hid (ClRel g B d v P W h b R (put4 w5 b Y) ∧ msr g (put4 w5 b Y) < msr g wr) := by
          cases hi : itemF X l' with
          | none =>
            rw [hi] at hit
            obtain ⟨Y, rfl, ho⟩ := hit
            have g5 : Go1 g v v W w5 := G4.out.trans ho.2
            have s5 := S4.out.go ho.2
            have p5 := ho.1.put4 s5.hg s5.hv Y
            refine ⟨Y, rfl, ho.2, Lib.hid ⟨⟨?_, (B2.out.go g5).put4 (fun e => absurd e.symm HHB.out) Y, .inr ⟨?_, p5, Y, s5.put Y⟩⟩, ?_⟩⟩
            · exact g5.put4 HWB.out Y
            · rw [← HC.out, clsF_bad HLN.out.1 HZ.out hi]
            · rw [MS.out, msr_ps p5]
              simp
          | some m =>
            obtain ⟨Y, q⟩ := m
            rw [hi] at hit
            obtain ⟨rfl, ho⟩ := hit
            have g5 : Go1 g v v W w5 := G4.out.trans ho.2
            have s5 := S4.out.go ho.2
            have p5 := ho.1.put4 s5.hg s5.hv Y
            obtain ⟨m, hm1, hm2⟩ := clsF_on (X := X) HLN.out.1 HZ.out hi
            have hq := itemF_len hi
            refine ⟨Y, rfl, ho.2, Lib.hid ⟨⟨?_, (B2.out.go g5).put4 (fun e => absurd e.symm HHB.out) Y, .inl ⟨Y, m, q, ?_, hm1, by have := HLN.out.2; omega, p5, s5.put Y⟩⟩, ?_⟩⟩
            · exact g5.put4 HWB.out Y
            · rw [← HC.out, hm2]
            · rw [MS.out, msr_ps p5]
              simp
              omega
        subst hy
        obtain ⟨⟨r0, r1, r2, r3⟩, s0, s1, s2, s3⟩ := (S4.out.go g5).cells
        clear hit g5
        unfold setV
        go_wp2_with fail
        go_roundw
        case rel => exact Lib.hid HR0.out.1
        case measure => exact HR0.out.2
    · have c3 := pr.c3
      have PE := Lib.hid pr
      obtain ⟨⟨q0, q1, q2, q3⟩, _⟩ := sb.cells
      have HE := Lib.hid hr
      clear pr sb hr
      have G5 := Lib.hid GR.out
      have P5 := Lib.hid PE.out
      obtain ⟨⟨r0, r1, r2, r3⟩, s0, s1, s2, s3⟩ := (B2.out.go G5.out).cells
      go_wp2_with fail
      refine bodyPost_ret (v := setV X) (by simp [results, Tryd.results87, go_sem, r0, r1, r2, r3, setV]) rfl ?_
      rw [HF.out, HE.out]
      exact ⟨_, rfl, P5.out.put4 (B2.out.hg) (B2.out.hv) _, (GW.out.trans G5.out).put4 HH.out _⟩
set_option maxHeartbeats 2000000 in
theorem class_not (g B : Nat) (l : List UInt8) (d : Nat) (v : Value) (P : List Pl) (w : World) (p : Ps w g B l d v P 0) (hl : l.length ≤ 1000) (hs : hd 94 l = true) :
    Calls Tryd.prog 87 #[.pointer (some ⟨g, 0, none⟩)] w fun y w' => ItP (classF l) g B d v w P y w' := by
  obtain ⟨R, hR⟩ : ∃ R, insF (l.drop 1) = R := ⟨_, rfl⟩
  obtain ⟨F, hF⟩ : ∃ F, classF l = F := ⟨_, rfl⟩
  have HF := Lib.hid (show F = notO R by
    rw [← hF, ← hR]
    unfold classF
    rw [if_pos hs]
    cases insF (l.drop 1) <;> rfl)
  rw [hF]
  obtain ⟨W, hW⟩ : ∃ W, w.alloc (.cells #[.int .u64 0, .int .u64 0, .int .u64 0, .int .u64 0] 102 (0, 0)) = W := ⟨_, rfl⟩
  obtain ⟨h, hh⟩ : ∃ h, w.heap.size = h := ⟨_, rfl⟩
  have PW := Lib.hid (show Ps W g B l d v P 0 from hW ▸ p.alloc _)
  have B2 := Lib.hid (show Sb W h g v noX from hh ▸ hW ▸ Sb.new p noX)
  have GW := Lib.hid (show Go1 g v v w W from hW ▸ (Go1.refl _ _ _).alloc _)
  have HH := Lib.hid (show w.heap.size ≤ h by omega)
  have HS := Lib.hid hs
  have HL := Lib.hid hl
  obtain ⟨l1, hl1⟩ : ∃ l1, (if hd 94 l = true then l.drop 1 else l) = l1 := ⟨_, rfl⟩
  have HL1 := Lib.hid (show l1.length ≤ 1000 by
    rw [← hl1]
    split
    · rw [List.length_drop]; omega
    · first | exact hl | (rw [List.length_drop]; omega))
  have HI := Lib.hid (show insF l1 = R by rw [← hl1, hs]; exact hR)
  have HLL := Lib.hid (show (l.drop 1) = l1 by rw [← hl1, hs]; rfl)
  clear p hl hs hR hF hl1
  go_enter Tryd.func87, Tryd.ntmps87
  go_wp2_with fail
  clear hW hh
  refine (skip_any _ _ _ _ _ _ _ 94 _ PW.out HL.out).mono ?_
  rw [HS.out]
  rintro y w1 ⟨rfl, ho⟩
  simp only [if_true] at ho
  rw [HLL.out] at ho
  have P1 := Lib.hid ho.1
  have G1 := Lib.hid ho.2
  clear ho
  go_wp2_with fail
  refine (item0_any _ _ _ _ _ _ _ P1.out HL1.out).mono ?_
  intro y w2 hit
  have hsz : w1.heap.size ≤ w2.heap.size := by
    cases hi : itemF noX l1 with
    | none =>
      rw [hi] at hit
      obtain ⟨Y, _, ho⟩ := hit
      exact ho.2.size
    | some m =>
      rw [hi] at hit
      exact hit.2.2.size
  obtain ⟨Y, W3, hy, HR0⟩ : ∃ Y W3, y = .returned (setV Y) ∧ W3 = w2.alloc (.cells (stA Y) 102 (0, 0)) ∧ Hid (ClRel g B d v P W h w2.heap.size R W3) := by
    cases hi : itemF noX l1 with
    | none =>
      rw [hi] at hit
      obtain ⟨Y, rfl, ho⟩ := hit
      have g2 : Go1 g v v W w2 := G1.out.trans ho.2
      refine ⟨Y, _, rfl, rfl, Lib.hid ⟨g2.alloc _, (B2.out.go g2).alloc _, .inr ⟨?_, ho.1.alloc _, Y, Sb.new ho.1 Y⟩⟩⟩
      rw [← HI.out]
      unfold insF
      rw [hi]
    | some m =>
      obtain ⟨Y, q⟩ := m
      rw [hi] at hit
      obtain ⟨rfl, ho⟩ := hit
      have g2 : Go1 g v v W w2 := G1.out.trans ho.2
      have := itemF_len hi
      have := HL1.out
      refine ⟨Y, _, rfl, rfl, Lib.hid ⟨g2.alloc _, (B2.out.go g2).alloc _, .inl ⟨Y, q.length + 1, q, ?_, by omega, by omega, ho.1.alloc _, Sb.new ho.1 Y⟩⟩⟩
      rw [← HI.out]
      unfold insF
      rw [hi]
  subst hy
  obtain ⟨hW3, HR⟩ := HR0
  have HSZ := Lib.hid (show w1.heap.size ≤ w2.heap.size from hsz)
  clear hit
  unfold setV
  unfold stA at hW3
  obtain ⟨b, hb⟩ : ∃ b, w2.heap.size = b := ⟨_, rfl⟩
  rw [hb] at HR
  have HHB := Lib.hid (show b ≠ h by
    have h1 := B2.out.s.hw
    have h2 := G1.out.size
    have h3 := HSZ.out
    omega)
  have HWB := Lib.hid (show W.heap.size ≤ b by
    have h2 := G1.out.size
    have h3 := HSZ.out
    omega)
  have hW3' := hW3.symm
  clear hW3
  go_wp2_with fail
  clear hW3'
  go_loopw [] (fun wr => Hid (ClRel g B d v P W h b R wr)) (fun wr => msr g wr)
  case atStart => exact HR
  case round =>
    obtain ⟨gr, br, hx⟩ := hrel.out
    have GR := Lib.hid gr
    have BR := Lib.hid br
    clear gr br hrel HR
    rcases hx with ⟨X, n, l', hc, hn, hl', pr, sb⟩ | ⟨hr, pr, X, sb⟩
    · have c3 := pr.c3
      have PR := Lib.hid pr
      have SB := Lib.hid sb
      have HC := Lib.hid hc
      have HLN := Lib.hid (And.intro hn hl')
      have MS := Lib.hid (msr_ps pr)
      clear pr sb hc hn hl'
      cases hz : hd 93 l' with
      | true =>
        have HZ := Lib.hid hz
        clear hz
        go_wp2_with fail
        refine (skip_any _ _ _ _ _ _ _ 93 _ PR.out HLN.out.2).mono ?_
        rw [HZ.out]
        rintro y w4 ⟨rfl, ho⟩
        simp only [if_true] at ho
        have PE := Lib.hid ho.1
        have GE := Lib.hid (GR.out.trans ho.2)
        obtain ⟨⟨q0, q1, q2, q3⟩, _⟩ := (SB.out.go ho.2).cells
        have HE := Lib.hid (show R = some (X, l'.drop 1) by rw [← HC.out, clsF_end HLN.out.1 HZ.out])
        clear ho c3
        go_wp2_with fail
        refine (others_any X _).mono ?_
        rintro y w5 ⟨rfl, hb5⟩
        have G5 := Lib.hid (GE.out.trans (Go1.of_below (g := g) (v := v) hb5))
        have P5 := Lib.hid (PE.out.below hb5)
        obtain ⟨⟨r0, r1, r2, r3⟩, s0, s1, s2, s3⟩ := (B2.out.go G5.out).cells
        clear hb5 q0 q1 q2 q3
        unfold setV
        go_wp2_with fail
        refine bodyPost_ret (v := setV (notX X)) (by simp [results, Tryd.results87, go_sem, r0, r1, r2, r3, setV]) rfl ?_
        rw [HF.out, HE.out]
        exact ⟨rfl, P5.out.put4 (B2.out.hg) (B2.out.hv) _, (GW.out.trans G5.out).put4 HH.out _⟩
      | false =>
        have HZ := Lib.hid hz
        clear hz
        go_wp2_with fail
        refine (skip_any _ _ _ _ _ _ _ 93 _ PR.out HLN.out.2).mono ?_
        rw [HZ.out]
        rintro y w4 ⟨rfl, ho⟩
        simp only [Bool.false_eq_true, if_false] at ho
        have P4 := Lib.hid ho.1
        have G4 := Lib.hid (GR.out.trans ho.2)
        have S4 := Lib.hid (SB.out.go ho.2)
        clear ho c3
        obtain ⟨⟨q0, q1, q2, q3⟩, _⟩ := S4.out.cells
        go_wp2_with fail
        refine (item_any X _ _ _ _ _ _ _ P4.out HLN.out.2).mono ?_
        intro y w5 hit
        clear q0 q1 q2 q3
        obtain ⟨Y, hy, g5, HR0⟩ : ∃ Y, y = .returned (setV Y) ∧ Go1 g v v w4 w5 ∧ Hid (ClRel g B d v P W h b R (put4 w5 b Y) ∧ msr g (put4 w5 b Y) < msr g wr) := by
          cases hi : itemF X l' with
          | none =>
            rw [hi] at hit
            obtain ⟨Y, rfl, ho⟩ := hit
            have g5 : Go1 g v v W w5 := G4.out.trans ho.2
            have s5 := S4.out.go ho.2
            have p5 := ho.1.put4 s5.hg s5.hv Y
            refine ⟨Y, rfl, ho.2, Lib.hid ⟨⟨?_, (B2.out.go g5).put4 (fun e => absurd e.symm HHB.out) Y, .inr ⟨?_, p5, Y, s5.put Y⟩⟩, ?_⟩⟩
            · exact g5.put4 HWB.out Y
            · rw [← HC.out, clsF_bad HLN.out.1 HZ.out hi]
            · rw [MS.out, msr_ps p5]
              simp
          | some m =>
            obtain ⟨Y, q⟩ := m
            rw [hi] at hit
            obtain ⟨rfl, ho⟩ := hit
            have g5 : Go1 g v v W w5 := G4.out.trans ho.2
            have s5 := S4.out.go ho.2
            have p5 := ho.1.put4 s5.hg s5.hv Y
            obtain ⟨m, hm1, hm2⟩ := clsF_on (X := X) HLN.out.1 HZ.out hi
            have hq := itemF_len hi
            refine ⟨Y, rfl, ho.2, Lib.hid ⟨⟨?_, (B2.out.go g5).put4 (fun e => absurd e.symm HHB.out) Y, .inl ⟨Y, m, q, ?_, hm1, by have := HLN.out.2; omega, p5, s5.put Y⟩⟩, ?_⟩⟩
            · exact g5.put4 HWB.out Y
            · rw [← HC.out, hm2]
            · rw [MS.out, msr_ps p5]
              simp
              omega
        subst hy
        obtain ⟨⟨r0, r1, r2, r3⟩, s0, s1, s2, s3⟩ := (S4.out.go g5).cells
        clear hit g5
        unfold setV
        go_wp2_with fail
        go_roundw
        case rel => exact Lib.hid HR0.out.1
        case measure => exact HR0.out.2
    · have c3 := pr.c3
      have PE := Lib.hid pr
      obtain ⟨⟨q0, q1, q2, q3⟩, _⟩ := sb.cells
      have HE := Lib.hid hr
      clear pr sb hr
      go_wp2_with fail
      refine (others_any X _).mono ?_
      rintro y w5 ⟨rfl, hb5⟩
      have G5 := Lib.hid (GR.out.trans (Go1.of_below (g := g) (v := v) hb5))
      have P5 := Lib.hid (PE.out.below hb5)
      obtain ⟨⟨r0, r1, r2, r3⟩, s0, s1, s2, s3⟩ := (B2.out.go G5.out).cells
      clear hb5 q0 q1 q2 q3
      unfold setV
      go_wp2_with fail
      refine bodyPost_ret (v := setV (notX X)) (by simp [results, Tryd.results87, go_sem, r0, r1, r2, r3, setV]) rfl ?_
      rw [HF.out, HE.out]
      exact ⟨_, rfl, P5.out.put4 (B2.out.hg) (B2.out.hv) _, (GW.out.trans G5.out).put4 HH.out _⟩
theorem class_any (g B : Nat) (l : List UInt8) (d : Nat) (v : Value) (P : List Pl) (w : World) (p : Ps w g B l d v P 0) (hl : l.length ≤ 1000) :
    Calls Tryd.prog 87 #[.pointer (some ⟨g, 0, none⟩)] w fun y w' => ItP (classF l) g B d v w P y w' := by
  cases hs : hd 94 l with
  | true => exact class_not g B l d v P w p hl hs
  | false => exact class_pos g B l d v P w p hl hs
end Go.Proofs.YtnabfganecghkaaDoor
