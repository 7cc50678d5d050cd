/- The document's Lay: what text it returns. -/
import Derived.Test.YtjnienlidmmhdaaGreatDoorTkV
namespace Go.Proofs.YtjnienlidmmhdaaGreatDoor.Tk
open Go.RowKit
set_option linter.unusedVariables false

/-- the bits of runs, from the i-th on -/
def restL : Nat → List (Int × Int) → List Bool
  | _, [] => []
  | i, p :: t => ((if 0 < i then codeL (p.1 - 1).toNat else []) ++ codeL (p.2 - 1).toNat) ++ restL (i + 1) t
theorem restL_snoc (L : List (Int × Int)) (p : Int × Int) : ∀ i, restL i (L ++ [p]) = restL i L ++ ((if 0 < i + L.length then codeL (p.1 - 1).toNat else []) ++ codeL (p.2 - 1).toNat) := by
  induction L with
  | nil => intro i; simp [restL]
  | cons q t ih =>
    intro i
    have e : i + 1 + t.length = i + (q :: t).length := by simp; omega
    simp only [List.cons_append, restL, ih, e, List.append_assoc]
theorem restL_length (L : List (Int × Int)) : ∀ i, (restL i L).length ≤ 142 * L.length := by
  induction L with
  | nil => intro i; simp [restL]
  | cons q t ih =>
    intro i
    have h1 := codeL_length (q.1 - 1).toNat
    have h2 := codeL_length (q.2 - 1).toNat
    have h3 := ih (i + 1)
    simp only [restL, List.length_append, List.length_cons]
    generalize codeL (q.1 - 1).toNat = x at *
    generalize codeL (q.2 - 1).toNat = y at *
    split
    · omega
    · simp only [List.length_nil]; omega
/-- a layout's bits -/
def layL (f : Int) (L : List (Int × Int)) : List Bool := if L = [] then codeL 0 else (codeL L.length ++ codeL (zigv f).toNat) ++ restL 0 L
/-- runs that can be laid -/
def Lb (L : List (Int × Int)) : Prop := ∀ (i : Nat) (p : Int × Int), L[i]? = some p → (i = 0 ∨ (1 ≤ p.1 ∧ p.1 ≤ 1000000)) ∧ 1 ≤ p.2 ∧ p.2 ≤ 1000000

def LayRel (f : Int) (L : List (Int × Int)) (w : World) (i s : Value) (wr : World) : Prop :=
  ∃ j : Nat, j ≤ L.length ∧ i = .int .i64 (j : Int) ∧ s = .string (T ((codeL L.length ++ codeL (zigv f).toNat) ++ restL 0 (L.take j))) ∧ Below w.heap.size w wr

set_option maxHeartbeats 1000000 in
theorem reflay_any (f : Int) (A : Option Addr) (c : Nat) (L : List (Int × Int)) (w : World) (hS : Cl w A (twoC .i64 L)) (hb : Lb L) (h0 : 0 < L.length) (hl : L.length ≤ 1000) (f1 : -1000000 ≤ f) (f2 : f ≤ 1000000) :
    Calls Tryz.prog 61 #[.int .i64 f, .slice A L.length c] w fun e w' => e = .returned (.string (T (layL f L))) ∧ Below w.heap.size w w' := by
  have HS := Lib.hid hS
  have HB := Lib.hid hb
  obtain ⟨M, hM⟩ : ∃ M, codeL L.length = M := ⟨_, rfl⟩
  obtain ⟨Z, hZ⟩ : ∃ Z, codeL (zigv f).toNat = Z := ⟨_, rfl⟩
  have lM : M.length ≤ 71 := by rw [← hM]; exact codeL_length _
  have lZ : Z.length ≤ 71 := by rw [← hZ]; exact codeL_length _
  have HM := Lib.hid hM
  have HZ := Lib.hid hZ
  have HLAY := Lib.hid (show layL f L = (M ++ Z) ++ restL 0 L by unfold layL; rw [if_neg (fun e => by rw [e] at h0; simp at h0), hM, hZ])
  have hadd0 := add_T (P := Tryz.prog) M Z (by omega)
  have hne : ((L.length : Int) == 0) = false := by simp; intro e; rw [e] at h0; simp at h0
  clear hS hb hM hZ
  go_enter Tryz.func61, Tryz.ntmps61
  go_wp2_with fail
  refine (refcount_any L.length _ (by omega)).mono ?_
  rintro e w1 ⟨rfl, hb1⟩
  have HB1 := Lib.hid hb1
  rw [HM.out]
  clear hb1
  go_wp2_with fail
  refine (refint_any f _ (by omega) (by omega)).mono ?_
  rintro e w2 ⟨rfl, hb2⟩
  have HB2 := Lib.hid (HB1.out.trans (hb2.mono HB1.out.size))
  rw [HZ.out]
  clear hb2
  go_wp2_with fail
  go_loopw [6, 5] (fun i s wr => LayRel f L w i s wr) (fun i _ _ => L.length - (intOf i).toNat)
  case atStart => exact ⟨0, by omega, rfl, by rw [HM.out, HZ.out]; simp [restL], HB2.out⟩
  case round =>
    obtain ⟨j, hj, rfl, rfl, hbr⟩ := hrel
    have HBR := Lib.hid hbr
    rw [HM.out, HZ.out]
    clear hbr
    by_cases hlt : j < L.length
    · obtain ⟨b, off, rfl, hc⟩ := (HS.out.below HBR.out).twos (by omega)
      obtain ⟨p, hp⟩ := getElem?_lt hlt
      obtain ⟨q1, q2⟩ := hc j p hp
      have hpb := HB.out j p hp
      have HT := Lib.hid (show restL 0 (L.take (j + 1)) = restL 0 (L.take j) ++ ((if 0 < j then codeL (p.1 - 1).toNat else []) ++ codeL (p.2 - 1).toNat) by
        rw [take_snoc L j p hp, restL_snoc, List.length_take, Nat.min_eq_left hj, Nat.zero_add])
      have hrl := restL_length (L.take j) 0
      have hrl' : (L.take j).length ≤ 1000 := by rw [List.length_take]; omega
      obtain ⟨D, hD⟩ : ∃ D, (M ++ Z) ++ restL 0 (L.take j) = D := ⟨_, rfl⟩
      have lD : D.length ≤ 143000 := by rw [← hD]; simp only [List.length_append]; omega
      have HD := Lib.hid hD
      rw [hD]
      obtain ⟨o, n⟩ := p
      simp only at q1 q2 HT hpb
      obtain ⟨po, n1, n2⟩ := hpb
      obtain ⟨m, hm⟩ : ∃ m : Nat, n - 1 = (m : Int) := ⟨(n - 1).toNat, by omega⟩
      have hm64 : m ≤ 1000000 := by omega
      have e1 : (n - 1).toNat = m := by omega
      rw [e1] at HT
      have hki : (j : Int) < (L.length : Int) := by omega
      clear hc hp hrl hrl' hD e1
      by_cases hj0 : 0 < j
      · have hd : decide ((0 : Int) < (j : Int)) = true := by simp; omega
        have ho : 1 ≤ o ∧ o ≤ 1000000 := by rcases po with po | po <;> omega
        obtain ⟨u, hu⟩ : ∃ u : Nat, o - 1 = (u : Int) := ⟨(o - 1).toNat, by omega⟩
        have hu64 : u ≤ 1000000 := by omega
        have e2 : (o - 1).toNat = u := by omega
        rw [e2, if_pos hj0] at HT
        have lu := codeL_length u
        have lm := codeL_length m
        have hadd1 := add_T (P := Tryz.prog) D (codeL u) (by omega)
        have hadd2 := add_T (P := Tryz.prog) (D ++ codeL u) (codeL m) (by rw [List.length_append]; omega)
        have R : Hid (∀ wr', Below w.heap.size w wr' → LayRel f L w (.int .i64 ((j : Int) + 1)) (.string (T ((D ++ codeL u) ++ codeL m))) wr') := fun wr' hb' => ⟨j + 1, by omega, by go_num, by rw [HT.out, HM.out, HZ.out, ← List.append_assoc, HD.out, List.append_assoc], hb'⟩
        clear e2 po
        go_wp2_with fail
        refine (refcount_any u _ (by omega)).mono ?_
        rintro e w3 ⟨rfl, hb3⟩
        have HB3 := Lib.hid (HBR.out.trans (hb3.mono HBR.out.size))
        have k2 := (Kept.of_below hb3) _ _ q2
        clear hb3
        go_wp2_with fail
        refine (refcount_any m _ (by omega)).mono ?_
        rintro e w4 ⟨rfl, hb4⟩
        have HB4 := Lib.hid (HB3.out.trans (hb4.mono HB3.out.size))
        clear hb4
        go_wp2_with fail
        go_roundw
        case rel => first | exact R.out _ HB4.out | (have := R.out _ HB4.out; rw [List.append_assoc] at this; exact this)
        case measure => simp [intOf]; omega
      · have hd : decide ((0 : Int) < (j : Int)) = false := by simp; omega
        rw [if_neg hj0, List.nil_append] at HT
        have lm := codeL_length m
        have hadd2 := add_T (P := Tryz.prog) D (codeL m) (by omega)
        have R : Hid (∀ wr', Below w.heap.size w wr' → LayRel f L w (.int .i64 ((j : Int) + 1)) (.string (T (D ++ codeL m))) wr') := fun wr' hb' => ⟨j + 1, by omega, by go_num, by rw [HT.out, HM.out, HZ.out, ← List.append_assoc, HD.out], hb'⟩
        go_wp2_with fail
        refine (refcount_any m _ (by omega)).mono ?_
        rintro e w4 ⟨rfl, hb4⟩
        have HB4 := Lib.hid (HBR.out.trans (hb4.mono HBR.out.size))
        clear hb4
        go_wp2_with fail
        go_roundw
        case rel => exact R.out _ HB4.out
        case measure => simp [intOf]; omega
    · obtain rfl : j = L.length := by omega
      have HE := Lib.hid (show L.take L.length = L from List.take_length)
      go_wp2_with fail
      go_ret
      exact ⟨by rw [HLAY.out]; simp only [List.take_length, List.append_assoc]; rfl, HBR.out⟩
end Go.Proofs.YtjnienlidmmhdaaGreatDoor.Tk
