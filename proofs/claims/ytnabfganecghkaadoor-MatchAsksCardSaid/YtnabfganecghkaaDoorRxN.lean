/- A part without signs: bare. -/
import Derived.Test.YtnabfganecghkaaDoorRxM
namespace Go.Proofs.YtnabfganecghkaaDoor
open Go.RowKit
set_option linter.unusedVariables false

theorem kind_cases (c : UInt8) : kindF c = 0 ∨ kindF c = 1 ∨ kindF c = 2 ∨ kindF c = 3 ∨ kindF c = 4 ∨ kindF c = 5 := by
  unfold kindF
  split
  · exact .inl rfl
  split
  · exact .inr (.inr (.inl rfl))
  split
  · exact .inr (.inr (.inr (.inl rfl)))
  split
  · exact .inr (.inr (.inr (.inr (.inl rfl))))
  split
  · exact .inr (.inr (.inr (.inr (.inr rfl))))
  · exact .inr (.inl rfl)
theorem clsF_len : ∀ (n : Nat) (X Y : Nat → Bool) (l q : List UInt8), clsF n X l = some (Y, q) → q.length ≤ l.length
  | 0, X, Y, l, q, h => by cases h
  | n + 1, X, Y, l, q, h => by
    unfold clsF at h
    split at h
    · simp at h
      rw [← h.2]
      simp
    · split at h
      · cases h
      · rename_i Z q2 hi
        have := itemF_len hi
        have := clsF_len n _ _ _ _ h
        omega
theorem insF_len {X : Nat → Bool} {l q : List UInt8} (h : insF l = some (X, q)) : q.length ≤ l.length := by
  unfold insF at h
  split at h
  · cases h
  · rename_i Z q2 hi
    have := itemF_len hi
    have := clsF_len _ _ _ _ _ h
    omega
theorem classF_len {X : Nat → Bool} {l q : List UInt8} (h : classF l = some (X, q)) : q.length ≤ l.length := by
  unfold classF at h
  split at h
  · cases hi : insF (l.drop 1) with
    | none => rw [hi] at h; cases h
    | some m =>
      obtain ⟨Y, q2⟩ := m
      rw [hi] at h
      simp at h
      have := insF_len hi
      rw [List.length_drop] at this
      rw [← h.2]
      omega
  · exact insF_len h
theorem with0_any (a b : UInt8) (w : World) : Calls Tryd.prog 85 #[.agg #[.int .u64 0, .int .u64 0, .int .u64 0, .int .u64 0], .int .u8 (a.toNat : Int), .int .u8 (b.toNat : Int)] w fun y w' => y = .returned (setV (withX noX a.toNat b.toNat)) ∧ Below w.heap.size w w' :=
  setV_no ▸ with_any noX a b w
theorem others0_any (w : World) : Calls Tryd.prog 86 #[.agg #[.int .u64 0, .int .u64 0, .int .u64 0, .int .u64 0]] w fun y w' => y = .returned (setV (notX noX)) ∧ Below w.heap.size w w' :=
  setV_no ▸ others_any noX w
set_option maxHeartbeats 2000000 in
theorem bare_any (n : Nat) (H : Pat n) (g B d : Nat) (v : Value) (P : List Pl) (c : UInt8) (r : List UInt8) (w : World) (p : Ps w g B (c :: r) d v P 0) (hn : r.length < n) (hP : P.length + (r.length + 1) ≤ 64) (hd99 : d ≤ 99) :
    Calls Tryd.prog 79 #[.pointer (some ⟨g, 0, none⟩)] w fun y w' => PatP (bareF (fun r => patF n (d + 1) none .eps r) d c r) g B d v w P y w' := by
  obtain ⟨R, hR⟩ : ∃ R, bareF (fun r => patF n (d + 1) none .eps r) d c r = R := ⟨_, rfl⟩
  obtain ⟨W, hW⟩ : ∃ W, w.alloc (.cells #[.int .u64 0, .int .u64 0, .bool false] 50 (0, 0)) = W := ⟨_, rfl⟩
  obtain ⟨h, hh⟩ : ∃ h, w.heap.size = h := ⟨_, rfl⟩
  have PW := Lib.hid (show Ps W g B (c :: r) d v P 0 from hW ▸ p.alloc _)
  have BW := Lib.hid (show Bx W h g v ⟨0, 0, false⟩ from hh ▸ hW ▸ Bx.new p ⟨0, 0, false⟩)
  have GW := Lib.hid (show Go1 g v v w W from hW ▸ (Go1.refl _ _ _).alloc _)
  have HH := Lib.hid (show w.heap.size ≤ h by omega)
  have HN := Lib.hid (And.intro hn hP)
  have hr1 : r.length ≤ 1000 := by omega
  rw [hR]
  obtain ⟨k, hk⟩ : ∃ k, kindF c = k := ⟨_, rfl⟩
  have hkc := kind_cases c
  rw [hk] at hkc
  have HK := Lib.hid hk
  have HRR := Lib.hid hR
  clear p hn hP hk hR
  rcases hkc with rfl | rfl | rfl | rfl | rfl | rfl
  · have HRR := Lib.hid (show R = .err 27 by rw [← HRR.out]; unfold bareF; rw [if_neg (by rw [HK.out]; decide)]; unfold atomF; rw [HK.out]; rfl)
    go_enter Tryd.func79, Tryd.ntmps79
    go_wp2_with fail
    clear hW hh
    refine (next_ok _ _ _ _ _ _ _ _ _ PW.out hr1).mono ?_
    rintro y w1 ⟨rfl, ho⟩
    have P1 := Lib.hid ho.1
    have G1 := Lib.hid (GW.out.trans ho.2)
    have B1 := Lib.hid (BW.out.go ho.2)
    clear ho
    go_wp2_with fail
    refine (kind_any c _).mono ?_
    rw [HK.out]
    rintro y w' ⟨rfl, rfl⟩
    go_wp2_with fail
    refine (fail_any _ _ _ _ _ _ _ 27 _ P1.out).mono ?_
    rintro y w2 ⟨rfl, ho⟩
    have P2 := Lib.hid (show Ps w2 g B [] d v P 27 from ho.1)
    have G2 := Lib.hid (G1.out.trans ho.2)
    have B2 := Lib.hid (B1.out.go ho.2)
    clear ho
    obtain ⟨z0, z1, z2, zf0, zf1, zf2⟩ := B2.out.cells
    go_wp2_with fail
    have HO := (((show Out g B d v w _ _ _ _ w2 from ⟨P2.out, G2.out⟩).oy B2.out HH.out 0 (.int .u64 ((⟨0, 0, false⟩ : Pc).f : Nat))).oy B2.out HH.out 1 (.int .u64 ((⟨0, 0, false⟩ : Pc).l : Nat))).oy B2.out HH.out 2 (.bool (⟨0, 0, false⟩ : Pc).e)
    refine bodyPost_ret (v := pcV (⟨0, 0, false⟩ : Pc)) (by simp [results, Tryd.results79, go_sem, z0, z1, z2, pcV]) rfl ?_
    rw [HRR.out]
    exact ⟨by decide, _, v, P, rfl, ⟨by decide, by decide⟩, by have := HN.out.2; omega, HO⟩
  · have HRR := Lib.hid (show R = .ok (.one (withX noX c.toNat c.toNat)) r by rw [← HRR.out]; unfold bareF; rw [if_neg (by rw [HK.out]; decide)]; unfold atomF; rw [HK.out]; rfl)
    go_enter Tryd.func79, Tryd.ntmps79
    go_wp2_with fail
    clear hW hh
    refine (next_ok _ _ _ _ _ _ _ _ _ PW.out hr1).mono ?_
    rintro y w1 ⟨rfl, ho⟩
    have P1 := Lib.hid ho.1
    have G1 := Lib.hid (GW.out.trans ho.2)
    have B1 := Lib.hid (BW.out.go ho.2)
    clear ho
    go_wp2_with fail
    refine (kind_any c _).mono ?_
    rw [HK.out]
    rintro y w' ⟨rfl, rfl⟩
    go_wp2_with fail
    refine (with0_any c c _).mono ?_
    rintro y w2 ⟨rfl, hb⟩
    have G2 := Lib.hid (G1.out.trans (Go1.of_below (g := g) (v := v) hb))
    have P2 := Lib.hid (P1.out.below hb)
    have B2 := Lib.hid (B1.out.go (Go1.of_below (g := g) (v := v) hb))
    clear hb
    go_wp2_with fail
    refine (one_any (withX noX c.toNat c.toNat) _ _ _ _ _ _ _ _ P2.out (by have := HN.out.2; omega)).mono ?_
    rintro y w8 ⟨rfl, v8, ho⟩
    have P8 := Lib.hid ho.1
    have G8 := Lib.hid (G2.out.trans ho.2)
    have B8 := Lib.hid (B2.out.go ho.2)
    clear ho
    obtain ⟨M, hM⟩ : ∃ M, 2 ^ P.length = M := ⟨_, rfl⟩
    have HM := Lib.hid hM
    have hM64 : M < 18446744073709551616 := by
      rw [← hM]
      have : 2 ^ P.length ≤ 2 ^ 63 := Nat.pow_le_pow_right (by decide) (by have := HN.out.2; omega)
      omega
    have HM64 := Lib.hid hM64
    rw [hM]
    clear hM hM64
    simp only [pcV]
    obtain ⟨z0, z1, z2, zf0, zf1, zf2⟩ := B8.out.cells
    go_wp2_with fail
    have HO := (((show Out g B d v w _ _ _ _ w8 from ⟨P8.out, G8.out⟩).oy B8.out HH.out 0 (.int .u64 ((⟨M, M, false⟩ : Pc).f : Nat))).oy B8.out HH.out 1 (.int .u64 ((⟨M, M, false⟩ : Pc).l : Nat))).oy B8.out HH.out 2 (.bool (⟨M, M, false⟩ : Pc).e)
    refine bodyPost_ret (v := pcV (⟨M, M, false⟩ : Pc)) (by simp [results, Tryd.results79, go_sem, z0, z1, z2, pcV]) rfl ?_
    rw [HRR.out]
    simp only [PatP, glu]
    rw [HM.out]
    exact ⟨rfl, ⟨HM64.out, HM64.out⟩, by have := HN.out.2; rw [List.length_append, List.length_singleton]; omega, v8, HO⟩
  · cases r with
    | nil =>
      have HRR := Lib.hid (show R = .err 27 by rw [← HRR.out]; unfold bareF; rw [if_neg (by rw [HK.out]; decide)]; unfold atomF; rw [HK.out]; rfl)
      go_enter Tryd.func79, Tryd.ntmps79
      go_wp2_with fail
      clear hW hh
      refine (next_ok _ _ _ _ _ _ _ _ _ PW.out hr1).mono ?_
      rintro y w1 ⟨rfl, ho⟩
      have P1 := Lib.hid ho.1
      have G1 := Lib.hid (GW.out.trans ho.2)
      have B1 := Lib.hid (BW.out.go ho.2)
      clear ho
      go_wp2_with fail
      refine (kind_any c _).mono ?_
      rw [HK.out]
      rintro y w' ⟨rfl, rfl⟩
      go_wp2_with fail
      refine (next_none _ _ _ _ _ _ _ P1.out).mono ?_
      rintro y w2 ⟨rfl, ho⟩
      have P2 := Lib.hid (show Ps w2 g B [] d v P 27 from ho.1)
      have G2 := Lib.hid (G1.out.trans ho.2)
      have B2 := Lib.hid (B1.out.go ho.2)
      clear ho
      go_wp2_with fail
      refine (with0_any 0 0 _).mono ?_
      rintro y w3 ⟨rfl, hb⟩
      have G3 := Lib.hid (G2.out.trans (Go1.of_below (g := g) (v := v) hb))
      have P3 := Lib.hid (P2.out.below hb)
      have B3 := Lib.hid (B2.out.go (Go1.of_below (g := g) (v := v) hb))
      clear hb
      go_wp2_with fail
      refine (one_any (withX noX (0 : UInt8).toNat (0 : UInt8).toNat) _ _ _ _ _ _ _ _ P3.out (by have := HN.out.2; omega)).mono ?_
      rintro y w8 ⟨rfl, v8, ho⟩
      have P8 := Lib.hid ho.1
      have G8 := Lib.hid (G3.out.trans ho.2)
      have B8 := Lib.hid (B3.out.go ho.2)
      clear ho
      obtain ⟨M, hM⟩ : ∃ M, 2 ^ P.length = M := ⟨_, rfl⟩
      have HM := Lib.hid hM
      have hM64 : M < 18446744073709551616 := by
        rw [← hM]
        have : 2 ^ P.length ≤ 2 ^ 63 := Nat.pow_le_pow_right (by decide) (by have := HN.out.2; omega)
        omega
      have HM64 := Lib.hid hM64
      rw [hM]
      clear hM hM64
      simp only [pcV]
      obtain ⟨z0, z1, z2, zf0, zf1, zf2⟩ := B8.out.cells
      go_wp2_with fail
      have HO := (((show Out g B d v w _ _ _ _ w8 from ⟨P8.out, G8.out⟩).oy B8.out HH.out 0 (.int .u64 ((⟨M, M, false⟩ : Pc).f : Nat))).oy B8.out HH.out 1 (.int .u64 ((⟨M, M, false⟩ : Pc).l : Nat))).oy B8.out HH.out 2 (.bool (⟨M, M, false⟩ : Pc).e)
      refine bodyPost_ret (v := pcV (⟨M, M, false⟩ : Pc)) (by simp [results, Tryd.results79, go_sem, z0, z1, z2, pcV]) rfl ?_
      rw [HRR.out]
      exact ⟨by decide, _, v8, _, rfl, ⟨HM64.out, HM64.out⟩, by have := HN.out.2; rw [List.length_append, List.length_singleton]; omega, HO⟩
    | cons a q =>
      have hq1 : q.length ≤ 1000 := by simp at hr1; omega
      have HRR := Lib.hid (show R = .ok (.one (withX noX a.toNat a.toNat)) q by rw [← HRR.out]; unfold bareF; rw [if_neg (by rw [HK.out]; decide)]; unfold atomF; rw [HK.out]; rfl)
      go_enter Tryd.func79, Tryd.ntmps79
      go_wp2_with fail
      clear hW hh
      refine (next_ok _ _ _ _ _ _ _ _ _ PW.out hr1).mono ?_
      rintro y w1 ⟨rfl, ho⟩
      have P1 := Lib.hid ho.1
      have G1 := Lib.hid (GW.out.trans ho.2)
      have B1 := Lib.hid (BW.out.go ho.2)
      clear ho
      go_wp2_with fail
      refine (kind_any c _).mono ?_
      rw [HK.out]
      rintro y w' ⟨rfl, rfl⟩
      go_wp2_with fail
      refine (next_ok _ _ _ _ _ _ _ _ _ P1.out hq1).mono ?_
      rintro y w2 ⟨rfl, ho⟩
      have P2 := Lib.hid (show Ps w2 g B q d v P 0 from ho.1)
      have G2 := Lib.hid (G1.out.trans ho.2)
      have B2 := Lib.hid (B1.out.go ho.2)
      clear ho
      go_wp2_with fail
      refine (with0_any a a _).mono ?_
      rintro y w3 ⟨rfl, hb⟩
      have G3 := Lib.hid (G2.out.trans (Go1.of_below (g := g) (v := v) hb))
      have P3 := Lib.hid (P2.out.below hb)
      have B3 := Lib.hid (B2.out.go (Go1.of_below (g := g) (v := v) hb))
      clear hb
      go_wp2_with fail
      refine (one_any (withX noX a.toNat a.toNat) _ _ _ _ _ _ _ _ P3.out (by have := HN.out.2; omega)).mono ?_
      rintro y w8 ⟨rfl, v8, ho⟩
      have P8 := Lib.hid ho.1
      have G8 := Lib.hid (G3.out.trans ho.2)
      have B8 := Lib.hid (B3.out.go ho.2)
      clear ho
      obtain ⟨M, hM⟩ : ∃ M, 2 ^ P.length = M := ⟨_, rfl⟩
      have HM := Lib.hid hM
      have hM64 : M < 18446744073709551616 := by
        rw [← hM]
        have : 2 ^ P.length ≤ 2 ^ 63 := Nat.pow_le_pow_right (by decide) (by have := HN.out.2; omega)
        omega
      have HM64 := Lib.hid hM64
      rw [hM]
      clear hM hM64
      simp only [pcV]
      obtain ⟨z0, z1, z2, zf0, zf1, zf2⟩ := B8.out.cells
      go_wp2_with fail
      have HO := (((show Out g B d v w _ _ _ _ w8 from ⟨P8.out, G8.out⟩).oy B8.out HH.out 0 (.int .u64 ((⟨M, M, false⟩ : Pc).f : Nat))).oy B8.out HH.out 1 (.int .u64 ((⟨M, M, false⟩ : Pc).l : Nat))).oy B8.out HH.out 2 (.bool (⟨M, M, false⟩ : Pc).e)
      refine bodyPost_ret (v := pcV (⟨M, M, false⟩ : Pc)) (by simp [results, Tryd.results79, go_sem, z0, z1, z2, pcV]) rfl ?_
      rw [HRR.out]
      simp only [PatP, glu]
      rw [HM.out]
      exact ⟨rfl, ⟨HM64.out, HM64.out⟩, by have := HN.out.2; rw [List.length_append, List.length_singleton]; simp at this; omega, v8, HO⟩
  · have HRR := Lib.hid (show R = .ok (.one (notX noX)) r by rw [← HRR.out]; unfold bareF; rw [if_neg (by rw [HK.out]; decide)]; unfold atomF; rw [HK.out]; rfl)
    go_enter Tryd.func79, Tryd.ntmps79
    go_wp2_with fail
    clear hW hh
    refine (next_ok _ _ _ _ _ _ _ _ _ PW.out hr1).mono ?_
    rintro y w1 ⟨rfl, ho⟩
    have P1 := Lib.hid ho.1
    have G1 := Lib.hid (GW.out.trans ho.2)
    have B1 := Lib.hid (BW.out.go ho.2)
    clear ho
    go_wp2_with fail
    refine (kind_any c _).mono ?_
    rw [HK.out]
    rintro y w' ⟨rfl, rfl⟩
    go_wp2_with fail
    refine (others0_any _).mono ?_
    rintro y w2 ⟨rfl, hb⟩
    have G2 := Lib.hid (G1.out.trans (Go1.of_below (g := g) (v := v) hb))
    have P2 := Lib.hid (P1.out.below hb)
    have B2 := Lib.hid (B1.out.go (Go1.of_below (g := g) (v := v) hb))
    clear hb
    go_wp2_with fail
    refine (one_any (notX noX) _ _ _ _ _ _ _ _ P2.out (by have := HN.out.2; omega)).mono ?_
    rintro y w8 ⟨rfl, v8, ho⟩
    have P8 := Lib.hid ho.1
    have G8 := Lib.hid (G2.out.trans ho.2)
    have B8 := Lib.hid (B2.out.go ho.2)
    clear ho
    obtain ⟨M, hM⟩ : ∃ M, 2 ^ P.length = M := ⟨_, rfl⟩
    have HM := Lib.hid hM
    have hM64 : M < 18446744073709551616 := by
      rw [← hM]
      have : 2 ^ P.length ≤ 2 ^ 63 := Nat.pow_le_pow_right (by decide) (by have := HN.out.2; omega)
      omega
    have HM64 := Lib.hid hM64
    rw [hM]
    clear hM hM64
    simp only [pcV]
    obtain ⟨z0, z1, z2, zf0, zf1, zf2⟩ := B8.out.cells
    go_wp2_with fail
    have HO := (((show Out g B d v w _ _ _ _ w8 from ⟨P8.out, G8.out⟩).oy B8.out HH.out 0 (.int .u64 ((⟨M, M, false⟩ : Pc).f : Nat))).oy B8.out HH.out 1 (.int .u64 ((⟨M, M, false⟩ : Pc).l : Nat))).oy B8.out HH.out 2 (.bool (⟨M, M, false⟩ : Pc).e)
    refine bodyPost_ret (v := pcV (⟨M, M, false⟩ : Pc)) (by simp [results, Tryd.results79, go_sem, z0, z1, z2, pcV]) rfl ?_
    rw [HRR.out]
    simp only [PatP, glu]
    rw [HM.out]
    exact ⟨rfl, ⟨HM64.out, HM64.out⟩, by have := HN.out.2; rw [List.length_append, List.length_singleton]; omega, v8, HO⟩
  · have HRC := Lib.hid (show R = (match classF r with
      | none => .err 27
      | some (X, q) => .ok (.one X) q) by rw [← HRR.out]; unfold bareF; rw [if_neg (by rw [HK.out]; decide)]; unfold atomF; rw [HK.out]; rfl)
    clear HRR
    cases hc : classF r with
    | none =>
      have HC := Lib.hid hc
      have HRR := Lib.hid (show R = .err 27 by rw [HRC.out, hc])
      clear hc HRC
      go_enter Tryd.func79, Tryd.ntmps79
      go_wp2_with fail
      clear hW hh
      refine (next_ok _ _ _ _ _ _ _ _ _ PW.out hr1).mono ?_
      rintro y w1 ⟨rfl, ho⟩
      have P1 := Lib.hid ho.1
      have G1 := Lib.hid (GW.out.trans ho.2)
      have B1 := Lib.hid (BW.out.go ho.2)
      clear ho
      go_wp2_with fail
      refine (kind_any c _).mono ?_
      rw [HK.out]
      rintro y w' ⟨rfl, rfl⟩
      go_wp2_with fail
      refine (class_any _ _ _ _ _ _ _ P1.out hr1).mono ?_
      rw [HC.out]
      rintro y w2 ⟨Y, rfl, ho⟩
      have P2 := Lib.hid (show Ps w2 g B [] d v P 27 from ho.1)
      have G2 := Lib.hid (G1.out.trans ho.2)
      have B2 := Lib.hid (B1.out.go ho.2)
      clear ho
      go_wp2_with fail
      refine (one_any Y _ _ _ _ _ _ _ _ P2.out (by have := HN.out.2; omega)).mono ?_
      rintro y w8 ⟨rfl, v8, ho⟩
      have P8 := Lib.hid ho.1
      have G8 := Lib.hid (G2.out.trans ho.2)
      have B8 := Lib.hid (B2.out.go ho.2)
      clear ho
      obtain ⟨M, hM⟩ : ∃ M, 2 ^ P.length = M := ⟨_, rfl⟩
      have HM := Lib.hid hM
      have hM64 : M < 18446744073709551616 := by
        rw [← hM]
        have : 2 ^ P.length ≤ 2 ^ 63 := Nat.pow_le_pow_right (by decide) (by have := HN.out.2; omega)
        omega
      have HM64 := Lib.hid hM64
      rw [hM]
      clear hM hM64
      simp only [pcV]
      obtain ⟨z0, z1, z2, zf0, zf1, zf2⟩ := B8.out.cells
      go_wp2_with fail
      have HO := (((show Out g B d v w _ _ _ _ w8 from ⟨P8.out, G8.out⟩).oy B8.out HH.out 0 (.int .u64 ((⟨M, M, false⟩ : Pc).f : Nat))).oy B8.out HH.out 1 (.int .u64 ((⟨M, M, false⟩ : Pc).l : Nat))).oy B8.out HH.out 2 (.bool (⟨M, M, false⟩ : Pc).e)
      refine bodyPost_ret (v := pcV (⟨M, M, false⟩ : Pc)) (by simp [results, Tryd.results79, go_sem, z0, z1, z2, pcV]) rfl ?_
      rw [HRR.out]
      exact ⟨by decide, _, v8, _, rfl, ⟨HM64.out, HM64.out⟩, by have := HN.out.2; rw [List.length_append, List.length_singleton]; omega, HO⟩
    | some m =>
      obtain ⟨X, q⟩ := m
      have HC := Lib.hid hc
      have HRR := Lib.hid (show R = .ok (.one X) q by rw [HRC.out, hc])
      have HQ := Lib.hid (classF_len hc)
      clear hc HRC
      go_enter Tryd.func79, Tryd.ntmps79
      go_wp2_with fail
      clear hW hh
      refine (next_ok _ _ _ _ _ _ _ _ _ PW.out hr1).mono ?_
      rintro y w1 ⟨rfl, ho⟩
      have P1 := Lib.hid ho.1
      have G1 := Lib.hid (GW.out.trans ho.2)
      have B1 := Lib.hid (BW.out.go ho.2)
      clear ho
      go_wp2_with fail
      refine (kind_any c _).mono ?_
      rw [HK.out]
      rintro y w' ⟨rfl, rfl⟩
      go_wp2_with fail
      refine (class_any _ _ _ _ _ _ _ P1.out hr1).mono ?_
      rw [HC.out]
      rintro y w2 ⟨rfl, ho⟩
      have P2 := Lib.hid (show Ps w2 g B q d v P 0 from ho.1)
      have G2 := Lib.hid (G1.out.trans ho.2)
      have B2 := Lib.hid (B1.out.go ho.2)
      clear ho
      go_wp2_with fail
      refine (one_any X _ _ _ _ _ _ _ _ P2.out (by have := HN.out.2; omega)).mono ?_
      rintro y w8 ⟨rfl, v8, ho⟩
      have P8 := Lib.hid ho.1
      have G8 := Lib.hid (G2.out.trans ho.2)
      have B8 := Lib.hid (B2.out.go ho.2)
      clear ho
      obtain ⟨M, hM⟩ : ∃ M, 2 ^ P.length = M := ⟨_, rfl⟩
      have HM := Lib.hid hM
      have hM64 : M < 18446744073709551616 := by
        rw [← hM]
        have : 2 ^ P.length ≤ 2 ^ 63 := Nat.pow_le_pow_right (by decide) (by have := HN.out.2; omega)
        omega
      have HM64 := Lib.hid hM64
      rw [hM]
      clear hM hM64
      simp only [pcV]
      obtain ⟨z0, z1, z2, zf0, zf1, zf2⟩ := B8.out.cells
      go_wp2_with fail
      have HO := (((show Out g B d v w _ _ _ _ w8 from ⟨P8.out, G8.out⟩).oy B8.out HH.out 0 (.int .u64 ((⟨M, M, false⟩ : Pc).f : Nat))).oy B8.out HH.out 1 (.int .u64 ((⟨M, M, false⟩ : Pc).l : Nat))).oy B8.out HH.out 2 (.bool (⟨M, M, false⟩ : Pc).e)
      refine bodyPost_ret (v := pcV (⟨M, M, false⟩ : Pc)) (by simp [results, Tryd.results79, go_sem, z0, z1, z2, pcV]) rfl ?_
      rw [HRR.out]
      simp only [PatP, glu]
      rw [HM.out]
      exact ⟨rfl, ⟨HM64.out, HM64.out⟩, by have := HN.out.2; rw [List.length_append, List.length_singleton]; have := HQ.out; omega, v8, HO⟩
  · have HRR := Lib.hid (show R = innF (fun r => patF n (d + 1) none .eps r) d r by rw [← HRR.out]; unfold bareF; rw [if_pos HK.out])
    cases hi : innF (fun r => patF n (d + 1) none .eps r) d r with
    | err e =>
      have HI := Lib.hid hi
      clear hi
      go_enter Tryd.func79, Tryd.ntmps79
      go_wp2_with fail
      clear hW hh
      refine (next_ok _ _ _ _ _ _ _ _ _ PW.out hr1).mono ?_
      rintro y w1 ⟨rfl, ho⟩
      have P1 := Lib.hid ho.1
      have G1 := Lib.hid (GW.out.trans ho.2)
      have B1 := Lib.hid (BW.out.go ho.2)
      clear ho
      go_wp2_with fail
      refine (kind_any c _).mono ?_
      rw [HK.out]
      rintro y w' ⟨rfl, rfl⟩
      go_wp2_with fail
      refine (inner_any n H _ _ _ _ _ _ _ P1.out HN.out.1 (by have := HN.out.2; omega) hd99).mono ?_
      rw [HI.out]
      rintro y w2 ⟨he, pc, v8, P3', rfl, hpc, hP3, ho⟩
      have HE := Lib.hid he
      have HPC := Lib.hid hpc
      have HP3 := Lib.hid hP3
      have P2 := Lib.hid ho.1
      have G2 := Lib.hid (G1.out.trans ho.2)
      have B2 := Lib.hid (B1.out.go ho.2)
      clear ho he hpc hP3
      simp only [pcV]
      obtain ⟨z0, z1, z2, zf0, zf1, zf2⟩ := B2.out.cells
      go_wp2_with fail
      have HO := (((show Out g B d v w _ _ _ _ w2 from ⟨P2.out, G2.out⟩).oy B2.out HH.out 0 (.int .u64 (pc.f : Nat))).oy B2.out HH.out 1 (.int .u64 (pc.l : Nat))).oy B2.out HH.out 2 (.bool pc.e)
      refine bodyPost_ret (v := pcV pc) (by simp [results, Tryd.results79, go_sem, z0, z1, z2, pcV]) rfl ?_
      rw [HRR.out, HI.out]
      exact ⟨HE.out, pc, v8, P3', rfl, HPC.out, HP3.out, HO⟩
    | ok x q =>
      have HI := Lib.hid hi
      clear hi
      obtain ⟨pc, hpc⟩ : ∃ pc, (glu x P).1 = pc := ⟨_, rfl⟩
      obtain ⟨Q, hQ⟩ : ∃ Q, (glu x P).2 = Q := ⟨_, rfl⟩
      have HPC := Lib.hid hpc
      have HQQ := Lib.hid hQ
      clear hpc hQ
      go_enter Tryd.func79, Tryd.ntmps79
      go_wp2_with fail
      clear hW hh
      refine (next_ok _ _ _ _ _ _ _ _ _ PW.out hr1).mono ?_
      rintro y w1 ⟨rfl, ho⟩
      have P1 := Lib.hid ho.1
      have G1 := Lib.hid (GW.out.trans ho.2)
      have B1 := Lib.hid (BW.out.go ho.2)
      clear ho
      go_wp2_with fail
      refine (kind_any c _).mono ?_
      rw [HK.out]
      rintro y w' ⟨rfl, rfl⟩
      go_wp2_with fail
      refine (inner_any n H _ _ _ _ _ _ _ P1.out HN.out.1 (by have := HN.out.2; omega) hd99).mono ?_
      rw [HI.out]
      simp only [PatP]
      rw [HPC.out, HQQ.out]
      rintro y w2 ⟨rfl, hok, hlen, v8, ho⟩
      have HOK := Lib.hid hok
      have HLEN := Lib.hid hlen
      have P2 := Lib.hid ho.1
      have G2 := Lib.hid (G1.out.trans ho.2)
      have B2 := Lib.hid (B1.out.go ho.2)
      clear ho hok hlen
      simp only [pcV]
      obtain ⟨z0, z1, z2, zf0, zf1, zf2⟩ := B2.out.cells
      go_wp2_with fail
      have HO := (((show Out g B d v w _ _ _ _ w2 from ⟨P2.out, G2.out⟩).oy B2.out HH.out 0 (.int .u64 (pc.f : Nat))).oy B2.out HH.out 1 (.int .u64 (pc.l : Nat))).oy B2.out HH.out 2 (.bool pc.e)
      refine bodyPost_ret (v := pcV pc) (by simp [results, Tryd.results79, go_sem, z0, z1, z2, pcV]) rfl ?_
      rw [HRR.out, HI.out]
      simp only [PatP]
      rw [HPC.out, HQQ.out]
      exact ⟨rfl, HOK.out, HLEN.out, v8, HO⟩
end Go.Proofs.YtnabfganecghkaaDoor
