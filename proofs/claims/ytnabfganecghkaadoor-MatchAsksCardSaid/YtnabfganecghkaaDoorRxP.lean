/- A row: parts behind each other. -/
import Derived.Test.YtnabfganecghkaaDoorRxO
namespace Go.Proofs.YtnabfganecghkaaDoor
open Go.RowKit
set_option linter.unusedVariables false

theorem signs_len : ∀ (q : List UInt8) (y : Rx), (signs y q).2.length ≤ q.length
  | [], y => by simp [signs]
  | c :: r, y => by
    unfold signs
    split
    · have := signs_len r (.star y); simp; omega
    split
    · have := signs_len r (.plus y); simp; omega
    split
    · have := signs_len r (.opt y); simp; omega
    · simp
theorem atomF_len {c : UInt8} {r q : List UInt8} {X : Nat → Bool} (h : atomF c r = some (X, q)) : q.length ≤ r.length := by
  unfold atomF at h
  split at h
  · cases r with
    | nil => cases h
    | cons a s =>
      simp at h
      rw [← h.2]
      simp
  split at h
  · simp at h
    rw [← h.2]; exact Nat.le_refl _
  split at h
  · simp at h
    rw [← h.2]; exact Nat.le_refl _
  split at h
  · exact classF_len h
  · cases h
theorem patF_on {m d : Nat} {o : Option Rx} {x : Rx} {a : UInt8} {q : List UInt8} (h1 : ¬ a = 41) (h2 : ¬ a = 124) :
    patF (m + 1) d o x (a :: q) = match partF (bareF (fun r => patF m (d + 1) none .eps r) d a q) with
      | .err e => .err e
      | .ok y q2 => patF m d o (.cat x y) q2 := by
  rw [patF]
  simp only [h1, h2, if_false]
  cases bareF (fun r => patF m (d + 1) none .eps r) d a q <;> rfl
theorem patF_bar {m d : Nat} {o : Option Rx} {x : Rx} {q : List UInt8} (h : hd 124 q = true) : patF (m + 1) d o x q = patF m d (some (altO o x)) .eps (q.drop 1) := by
  cases q with
  | nil => cases h
  | cons a r =>
    have ha : a = 124 := by simpa [hd] using h
    subst ha
    rw [patF]
    simp
theorem patF_end {m d : Nat} {o : Option Rx} {x : Rx} {q : List UInt8} (h : q = [] ∨ hd 41 q = true) : patF (m + 1) d o x q = .ok (altO o x) q := by
  cases q with
  | nil => rw [patF]
  | cons a r =>
    have ha : a = 41 := by simpa [hd] using h
    subst ha
    rw [patF]
    simp
theorem patF_len : ∀ (n d : Nat) (o : Option Rx) (x : Rx) (l : List UInt8) (y : Rx) (q : List UInt8), patF n d o x l = .ok y q → q.length ≤ l.length
  | 0, d, o, x, l, y, q, h => by cases h
  | n + 1, d, o, x, [], y, q, h => by
    rw [patF_end (.inl rfl)] at h
    injection h with _ h2
    rw [← h2]; exact Nat.le_refl _
  | n + 1, d, o, x, a :: r, y, q, h => by
    by_cases h1 : a = 41
    · rw [patF_end (.inr (by simp [hd, h1]))] at h
      injection h with _ h2
      rw [← h2]; exact Nat.le_refl _
    by_cases h2 : a = 124
    · rw [patF_bar (by simp [hd, h2])] at h
      have := patF_len n _ _ _ _ _ _ h
      simp at this ⊢
      omega
    rw [patF_on h1 h2] at h
    cases hb : bareF (fun r => patF n (d + 1) none .eps r) d a r with
    | err e => rw [hb] at h; cases h
    | ok z q2 =>
      rw [hb] at h
      have h3 := patF_len n _ _ _ _ _ _ h
      have h4 := signs_len q2 z
      have h5 : q2.length ≤ r.length := by
        unfold bareF at hb
        split at hb
        · unfold innF at hb
          split at hb
          · cases hb
          · split at hb
            · cases hb
            · rename_i y2 q3 hp
              have h6 := patF_len n _ _ _ _ _ _ hp
              split at hb
              · injection hb with _ hq
                rw [← hq, List.length_drop]
                omega
              · cases hb
        · split at hb
          · cases hb
          · rename_i X q3 ha
            injection hb with _ hq
            rw [← hq]
            exact atomF_len ha
      simp
      omega
theorem bareF_len {n d : Nat} {a : UInt8} {r q : List UInt8} {y : Rx} (hb : bareF (fun r => patF n (d + 1) none .eps r) d a r = .ok y q) : q.length ≤ r.length := by
  unfold bareF at hb
  split at hb
  · unfold innF at hb
    split at hb
    · cases hb
    · split at hb
      · cases hb
      · rename_i y2 q3 hp
        have h6 := patF_len n _ _ _ _ _ _ hp
        split at hb
        · injection hb with _ hq
          rw [← hq, List.length_drop]
          omega
        · cases hb
  · split at hb
    · cases hb
    · rename_i X q3 ha
      injection hb with _ hq
      rw [← hq]
      exact atomF_len ha
theorem partF_len {n d : Nat} {a : UInt8} {r q : List UInt8} {y : Rx} (hb : partF (bareF (fun r => patF n (d + 1) none .eps r) d a r) = .ok y q) : q.length ≤ r.length := by
  cases hh : bareF (fun r => patF n (d + 1) none .eps r) d a r with
  | err e => rw [hh] at hb; cases hb
  | ok z q2 =>
    rw [hh] at hb
    injection hb with _ hq
    have := bareF_len hh
    have := signs_len q2 z
    rw [← hq]
    omega
/-- where a row ends -/
def stopF (q : List UInt8) : Prop := q = [] ∨ hd 41 q = true ∨ hd 124 q = true
/-- what a row pays -/
def RowQ (n d : Nat) (L : List UInt8) (g B : Nat) (v : Value) (w : World) (P : List Pl) (y : Ending) (w' : World) : Prop :=
  (∃ x q m v', (∀ o, patF n d o .eps L = patF m d o x q) ∧ q.length < m ∧ m ≤ n ∧ q.length ≤ L.length ∧ stopF q ∧ y = .returned (pcV (glu x P).1) ∧ PcOk (glu x P).1 ∧ (glu x P).2.length + q.length ≤ 64 ∧ Out g B d v w q (glu x P).2 0 v' w') ∨
  (∃ e pc v' P', (∀ o, patF n d o .eps L = .err e) ∧ e ≠ 0 ∧ y = .returned (pcV pc) ∧ PcOk pc ∧ P'.length ≤ 64 ∧ Out g B d v w [] P' e v' w')
/-- behind each round of its loop -/
def RwRel (n d : Nat) (L : List UInt8) (g B : Nat) (v : Value) (w : World) (P : List Pl) (h : Nat) (wr : World) : Prop :=
  (∃ x q m v', (∀ o, patF n d o .eps L = patF m d o x q) ∧ q.length < m ∧ m ≤ n ∧ q.length ≤ L.length ∧ PcOk (glu x P).1 ∧ (glu x P).2.length + q.length ≤ 64 ∧ Out g B d v w q (glu x P).2 0 v' wr ∧ Bx wr h g v' ⟨0, 0, false⟩ ∧ Bx wr (h + 1) g v' (glu x P).1) ∨
  (∃ e pc v' P', (∀ o, patF n d o .eps L = .err e) ∧ e ≠ 0 ∧ PcOk pc ∧ P'.length ≤ 64 ∧ Out g B d v w [] P' e v' wr ∧ Bx wr h g v' ⟨0, 0, false⟩ ∧ Bx wr (h + 1) g v' pc)
set_option maxHeartbeats 4000000 in
theorem row_any (N : Nat) (H : ∀ k, k < N → Pat k) (n : Nat) (hnN : n ≤ N) (g B d : Nat) (v : Value) (P : List Pl) (L : List UInt8) (w : World) (p : Ps w g B L d v P 0) (hn : L.length < n) (hP : P.length + L.length ≤ 64) (hd99 : d ≤ 99) :
    Calls Tryd.prog 55 #[.pointer (some ⟨g, 0, none⟩)] w fun y w' => RowQ n d L g B v w P y w' := by
  obtain ⟨W, hW⟩ : ∃ W, (w.alloc (.cells #[.int .u64 0, .int .u64 0, .bool false] 50 (0, 0))).alloc (.cells #[.int .u64 0, .int .u64 0, .bool true] 50 (0, 0)) = W := ⟨_, rfl⟩
  obtain ⟨h, hh⟩ : ∃ h, w.heap.size = h := ⟨_, rfl⟩
  have p1 := p.alloc (.cells #[.int .u64 0, .int .u64 0, .bool false] 50 (0, 0))
  have b1 := Bx.new p ⟨0, 0, false⟩
  have b2 := Bx.new p1 ⟨0, 0, true⟩
  have s1 : (w.alloc (.cells #[.int .u64 0, .int .u64 0, .bool false] 50 (0, 0))).heap.size = h + 1 := by simp [hh]
  rw [hh] at b1
  rw [s1] at b2
  have B1 : Bx W h g v ⟨0, 0, false⟩ := hW ▸ b1.alloc _
  have B2 : Bx W (h + 1) g v ⟨0, 0, true⟩ := hW ▸ b2
  have R0 := Lib.hid (show RwRel n d L g B v w P h W from .inl ⟨.eps, L, n, v, fun o => rfl, hn, Nat.le_refl _, Nat.le_refl _, ⟨show 0 < 18446744073709551616 by omega, show 0 < 18446744073709551616 by omega⟩, hP, ⟨hW ▸ p1.alloc _, hW ▸ ((Go1.refl _ _ _).alloc _).alloc _⟩, B1, B2⟩)
  have HH := Lib.hid (show w.heap.size ≤ h by omega)
  have HH1 := Lib.hid (show w.heap.size ≤ h + 1 by omega)
  have HLL := Lib.hid (show L.length ≤ 64 by omega)
  have HNN := Lib.hid hnN
  clear p p1 b1 b2 s1 B1 B2 hn hP hnN
  go_enter Tryd.func55, Tryd.ntmps55
  go_wp2_with fail
  clear hW hh
  go_loopw [] (fun wr => Hid (RwRel n d L g B v w P h wr)) (fun wr => msr g wr)
  case atStart => exact R0
  case round =>
    clear R0
    rcases hrel.out with ⟨x, q, m, v3, hpat, hqm, hmn, hqL, hok, hlen, ho, bh, bb⟩ | ⟨e, pc, v3, P3, hpat, he, hpc, hP3, ho, bh, bb⟩
    · have HPAT := Lib.hid hpat
      obtain ⟨pc, hpc⟩ : ∃ pc, (glu x P).1 = pc := ⟨_, rfl⟩
      obtain ⟨Q, hQ⟩ : ∃ Q, (glu x P).2 = Q := ⟨_, rfl⟩
      rw [hpc] at hok bb
      rw [hQ] at hlen ho
      have HPC := Lib.hid hpc
      have HQQ := Lib.hid hQ
      have HOK := Lib.hid hok
      have HLEN := Lib.hid hlen
      have HO := Lib.hid ho
      have BH := Lib.hid bh
      have BB := Lib.hid bb
      have MS := Lib.hid (msr_ps ho.1)
      have HQM := Lib.hid (And.intro hqm (And.intro hmn hqL))
      have c0 := ho.1.c0
      clear hpat hok hlen ho bh bb hrel hpc hQ hqm hmn hqL
      cases q with
      | nil =>
        rw [tx_nil] at c0
        obtain ⟨x0, x1, x2, xf0, xf1, xf2⟩ := BB.out.cells
        obtain ⟨z0, z1, z2, zf0, zf1, zf2⟩ := BH.out.cells
        go_wp2_with fail
        have HOO := ((HO.out.oy BH.out HH.out 0 (.int .u64 (pc.f : Nat))).oy BH.out HH.out 1 (.int .u64 (pc.l : Nat))).oy BH.out HH.out 2 (.bool pc.e)
        refine bodyPost_ret (v := pcV pc) (by simp [results, Tryd.results55, go_sem, z0, z1, z2, pcV]) rfl ?_
        exact .inl ⟨x, _, m, v3, HPAT.out, HQM.out.1, HQM.out.2.1, HQM.out.2.2, .inl rfl, by rw [HPC.out], by rw [HPC.out]; exact HOK.out, by rw [HQQ.out]; exact HLEN.out, by rw [HQQ.out]; exact HOO⟩
      | cons a q =>
        obtain ⟨T, hT, hTe, ⟨hT0, hTa⟩, hTx, hT1, hT2⟩ := tx_open a q (by have := HQM.out.2.2; have := HLL.out; simp at *; omega)
        rw [hT] at c0
        by_cases ha1 : a = 124
        · subst ha1
          have hne : (((124 : UInt8).toNat : Int) != 124) = false := by decide
          obtain ⟨x0, x1, x2, xf0, xf1, xf2⟩ := BB.out.cells
          obtain ⟨z0, z1, z2, zf0, zf1, zf2⟩ := BH.out.cells
          go_wp2_with fail
          have HOO := ((HO.out.oy BH.out HH.out 0 (.int .u64 (pc.f : Nat))).oy BH.out HH.out 1 (.int .u64 (pc.l : Nat))).oy BH.out HH.out 2 (.bool pc.e)
          refine bodyPost_ret (v := pcV pc) (by simp [results, Tryd.results55, go_sem, z0, z1, z2, pcV]) rfl ?_
          exact .inl ⟨x, _, m, v3, HPAT.out, HQM.out.1, HQM.out.2.1, HQM.out.2.2, .inr (.inr (by simp [hd])), by rw [HPC.out], by rw [HPC.out]; exact HOK.out, by rw [HQQ.out]; exact HLEN.out, by rw [HQQ.out]; exact HOO⟩
        by_cases ha2 : a = 41
        · subst ha2
          have hne : (((41 : UInt8).toNat : Int) != 124) = true := by decide
          have hne2 : (((41 : UInt8).toNat : Int) != 41) = false := by decide
          obtain ⟨x0, x1, x2, xf0, xf1, xf2⟩ := BB.out.cells
          obtain ⟨z0, z1, z2, zf0, zf1, zf2⟩ := BH.out.cells
          go_wp2_with fail
          have HOO := ((HO.out.oy BH.out HH.out 0 (.int .u64 (pc.f : Nat))).oy BH.out HH.out 1 (.int .u64 (pc.l : Nat))).oy BH.out HH.out 2 (.bool pc.e)
          refine bodyPost_ret (v := pcV pc) (by simp [results, Tryd.results55, go_sem, z0, z1, z2, pcV]) rfl ?_
          exact .inl ⟨x, _, m, v3, HPAT.out, HQM.out.1, HQM.out.2.1, HQM.out.2.2, .inr (.inl (by simp [hd])), by rw [HPC.out], by rw [HPC.out]; exact HOK.out, by rw [HQQ.out]; exact HLEN.out, by rw [HQQ.out]; exact HOO⟩
        have hne : ((a.toNat : Int) != 124) = true := by
          simp
          exact fun h => ha1 (u8_eq (by rw [show ((124 : UInt8).toNat) = 124 from rfl]; omega))
        have hne2 : ((a.toNat : Int) != 41) = true := by
          simp
          exact fun h => ha2 (u8_eq (by rw [show ((41 : UInt8).toNat) = 41 from rfl]; omega))
        obtain ⟨k, hk⟩ : ∃ k, m = k + 1 := ⟨m - 1, by have := HQM.out.1; omega⟩
        have HK := Lib.hid hk
        obtain ⟨S, hS⟩ : ∃ S, partF (bareF (fun r => patF k (d + 1) none .eps r) d a q) = S := ⟨_, rfl⟩
        have HS := Lib.hid hS
        have HPT := Lib.hid (fun (W2 : World) (pp : Ps W2 g B (a :: q) d v3 Q 0) => part_any k (H k (by have := HQM.out.2.1; have := HNN.out; omega)) g B d v3 Q a q W2 pp (by have := HQM.out.1; simp at this; omega) (by have := HLEN.out; simp at this; omega) hd99)
        have HON := Lib.hid (show ∀ o, patF n d o .eps L = (match partF (bareF (fun r => patF k (d + 1) none .eps r) d a q) with
          | .err e => .err e
          | .ok y q2 => patF k d o (.cat x y) q2) from fun o => by rw [HPAT.out o, hk]; exact patF_on ha2 ha1)
        rw [hS] at HON HPT
        have HSL := Lib.hid (fun y q2 (hs : S = .ok y q2) => partF_len (hS.trans hs))
        clear hk hS hT ha1 ha2
        go_wp2_with fail
        have xd := BB.out.drew.cells
        obtain ⟨x0, x1, x2, xf0, xf1, xf2⟩ := xd
        cases hs : S with
        | err e =>
          have HSS := Lib.hid hs
          have HON2 := Lib.hid (show ∀ o, patF n d o .eps L = .err e from fun o => by rw [HON.out o, hs])
          clear hs
          go_region_with (first
            | (go_at_call 71; refine (HPT.out _ HO.out.1.drew).mono ?_; intro y w5 hpp; rw [HSS.out] at hpp; obtain ⟨he, pd, v5, P5, rfl, hpd, hP5, ho⟩ := hpp; have HE := Lib.hid he; have HPD := Lib.hid hpd; have HP5 := Lib.hid hP5; have HO5 := Lib.hid (show Out g B d v w [] P5 e v5 w5 from HO.out.trans ⟨ho.1, ⟨⟨ho.2.s.os, ho.2.s.tape, ho.2.s.output, ho.2.s.size, ho.2.s.block⟩, ho.2.o⟩⟩); have BH5 := Lib.hid (BH.out.drew.go ho.2); have BB5 := Lib.hid (BB.out.drew.go ho.2); obtain ⟨y0, y1, y2', yf0, yf1, yf2⟩ := BB5.out.cells; clear he hpd hP5; clear ho; simp only [pcV])
            | (go_at_call 70; refine (join_any _ _ _ _ _ _ _ pc pd _ HO5.out.1 HOK.out HPD.out HP5.out).mono ?_; rintro y w6 ⟨rfl, ho⟩; have HO6 := Lib.hid (HO5.out.trans ho); have BH6 := Lib.hid (BH5.out.go ho.2); have BB6 := Lib.hid (BB5.out.go ho.2); clear ho; obtain ⟨u0, u1, u2, uf0, uf1, uf2⟩ := BB6.out.cells; obtain ⟨J, hJ⟩ : ∃ J, joinP pc pd = J := ⟨_, rfl⟩; have HJ := Lib.hid hJ; rw [hJ]; clear hJ; simp only [pcV]))
          all_goals
            have HOX := Lib.hid (((HO6.out.oy BB6.out HH1.out 0 (.int .u64 (J.f : Nat))).oy BB6.out HH1.out 1 (.int .u64 (J.l : Nat))).oy BB6.out HH1.out 2 (.bool J.e))
            have BHX := Lib.hid (((BH6.out.other (a := ⟨h + 1, 0, none⟩) (fun e => absurd e (by simp)) (.int .u64 (J.f : Nat))).other (a := ⟨h + 1, 1, none⟩) (fun e => absurd e (by simp)) (.int .u64 (J.l : Nat))).other (a := ⟨h + 1, 2, none⟩) (fun e => absurd e (by simp)) (.bool J.e))
            have BBX := Lib.hid (BB6.out.put J)
            have HM := Lib.hid (show msr g (((w6.setCell ⟨h + 1, 0, none⟩ (.int .u64 (J.f : Nat))).setCell ⟨h + 1, 1, none⟩ (.int .u64 (J.l : Nat))).setCell ⟨h + 1, 2, none⟩ (.bool J.e)) < msr g wr from by
              rw [MS.out, msr_ps HOX.out.1, if_neg HE.out]
              simp)
            go_wp2_with fail
            go_roundw
            case rel => exact Lib.hid (.inr ⟨e, J, v5, _, HON2.out, HE.out, by rw [← HJ.out]; exact joinP_ok HOK.out HPD.out, by rw [linkP_length]; exact HP5.out, HOX.out, BHX.out, BBX.out⟩)
            case measure => exact HM.out
        | ok y2 q2 =>
          have HSS := Lib.hid hs
          have HON2 := Lib.hid (show ∀ o, patF n d o .eps L = patF k d o (.cat x y2) q2 from fun o => by rw [HON.out o, hs])
          have HSL2 := Lib.hid (HSL.out y2 q2 hs)
          obtain ⟨pd, hpd⟩ : ∃ pd, (glu y2 Q).1 = pd := ⟨_, rfl⟩
          obtain ⟨P5, hP5⟩ : ∃ P5, (glu y2 Q).2 = P5 := ⟨_, rfl⟩
          have HPDE := Lib.hid hpd
          have HP5E := Lib.hid hP5
          clear hs hpd hP5
          go_region_with (first
            | (go_at_call 71; refine (HPT.out _ HO.out.1.drew).mono ?_; intro y w5 hpp; rw [HSS.out] at hpp; simp only [PatP] at hpp; rw [HPDE.out, HP5E.out] at hpp; obtain ⟨rfl, hok5, hlen5, v5, ho⟩ := hpp; have HPD := Lib.hid hok5; have HP5L := Lib.hid hlen5; have HP5 := Lib.hid (show P5.length ≤ 64 by omega); clear hok5 hlen5; have HO5 := Lib.hid (show Out g B d v w q2 P5 0 v5 w5 from HO.out.trans ⟨ho.1, ⟨⟨ho.2.s.os, ho.2.s.tape, ho.2.s.output, ho.2.s.size, ho.2.s.block⟩, ho.2.o⟩⟩); have BH5 := Lib.hid (BH.out.drew.go ho.2); have BB5 := Lib.hid (BB.out.drew.go ho.2); obtain ⟨y0, y1, y2', yf0, yf1, yf2⟩ := BB5.out.cells; skip; clear ho; simp only [pcV])
            | (go_at_call 70; refine (join_any _ _ _ _ _ _ _ pc pd _ HO5.out.1 HOK.out HPD.out HP5.out).mono ?_; rintro y w6 ⟨rfl, ho⟩; have HO6 := Lib.hid (HO5.out.trans ho); have BH6 := Lib.hid (BH5.out.go ho.2); have BB6 := Lib.hid (BB5.out.go ho.2); clear ho; obtain ⟨u0, u1, u2, uf0, uf1, uf2⟩ := BB6.out.cells; obtain ⟨J, hJ⟩ : ∃ J, joinP pc pd = J := ⟨_, rfl⟩; have HJ := Lib.hid hJ; rw [hJ]; clear hJ; simp only [pcV]))
          all_goals
            have HOX := Lib.hid (((HO6.out.oy BB6.out HH1.out 0 (.int .u64 (J.f : Nat))).oy BB6.out HH1.out 1 (.int .u64 (J.l : Nat))).oy BB6.out HH1.out 2 (.bool J.e))
            have BHX := Lib.hid (((BH6.out.other (a := ⟨h + 1, 0, none⟩) (fun e => absurd e (by simp)) (.int .u64 (J.f : Nat))).other (a := ⟨h + 1, 1, none⟩) (fun e => absurd e (by simp)) (.int .u64 (J.l : Nat))).other (a := ⟨h + 1, 2, none⟩) (fun e => absurd e (by simp)) (.bool J.e))
            have BBX := Lib.hid (BB6.out.put J)
            have HM := Lib.hid (show msr g (((w6.setCell ⟨h + 1, 0, none⟩ (.int .u64 (J.f : Nat))).setCell ⟨h + 1, 1, none⟩ (.int .u64 (J.l : Nat))).setCell ⟨h + 1, 2, none⟩ (.bool J.e)) < msr g wr from by
              rw [MS.out, msr_ps HOX.out.1]
              simp
              have := HSL2.out
              omega)
            go_wp2_with fail
            go_roundw
            case rel => exact Lib.hid (.inl ⟨.cat x y2, q2, k, v5, HON2.out, by have := HSL2.out; have := HQM.out.1; have := HK.out; simp at *; omega, by have := HQM.out.2.1; have := HK.out; omega, by have := HSL2.out; have := HQM.out.2.2; simp at *; omega, by
              show PcOk (joinP (glu x P).1 (glu y2 (glu x P).2).1)
              rw [HPC.out, HQQ.out, HPDE.out]
              exact joinP_ok HOK.out HPD.out, by
              show (linkP (glu y2 (glu x P).2).2 _ _).length + _ ≤ _
              rw [linkP_length, HQQ.out, HP5E.out]
              exact HP5L.out, by
              show Out g B d v w q2 (linkP (glu y2 (glu x P).2).2 (glu x P).1.l (glu y2 (glu x P).2).1.f) 0 v5 _
              rw [HPC.out, HQQ.out, HPDE.out, HP5E.out]
              exact HOX.out, BHX.out, by
              show Bx _ (h + 1) g v5 (joinP (glu x P).1 (glu y2 (glu x P).2).1)
              rw [HPC.out, HQQ.out, HPDE.out, HJ.out]
              exact BBX.out⟩)
            case measure => exact HM.out
    · have HPAT := Lib.hid hpat
      have HE := Lib.hid he
      have HPC := Lib.hid hpc
      have HP3 := Lib.hid hP3
      have HO := Lib.hid ho
      have BH := Lib.hid bh
      have BB := Lib.hid bb
      have c0 := ho.1.c0
      rw [tx_nil] at c0
      clear hpat he hpc hP3 ho bh bb hrel
      obtain ⟨x0, x1, x2, xf0, xf1, xf2⟩ := BB.out.cells
      obtain ⟨z0, z1, z2, zf0, zf1, zf2⟩ := BH.out.cells
      go_wp2_with fail
      have HOO := ((HO.out.oy BH.out HH.out 0 (.int .u64 (pc.f : Nat))).oy BH.out HH.out 1 (.int .u64 (pc.l : Nat))).oy BH.out HH.out 2 (.bool pc.e)
      refine bodyPost_ret (v := pcV pc) (by simp [results, Tryd.results55, go_sem, z0, z1, z2, pcV]) rfl ?_
      exact .inr ⟨e, pc, v3, P3, HPAT.out, HE.out, rfl, HPC.out, HP3.out, HOO⟩
end Go.Proofs.YtnabfganecghkaaDoor
