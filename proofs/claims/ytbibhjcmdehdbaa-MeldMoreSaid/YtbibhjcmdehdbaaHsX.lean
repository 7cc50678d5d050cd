/- The search for a bucket in a side. -/
import Derived.Test.YtbibhjcmdehdbaaHsT
namespace Go.Proofs.Ytbibhjcmdehdbaa
open Go.RowKit Go.Sort Go.Maps
set_option linter.unusedVariables false

theorem atcmp_any (a b i v : Int) (w : World) (hv : cmpV a i = v) : Calls Try.prog 93 #[.agg #[.int .i64 a, .int .u64 b], .int .i64 i] w fun e w' => e = .returned (.int .i64 v) ∧ Below w.heap.size w w' := by
  subst hv
  go_enter Try.func93, Try.ntmps93
  go_wp2_with (go_at_call 62; refine (cmp_any _ _ _).mono ?_; rintro e w' ⟨rfl, rfl⟩)
  go_ret
  exact ⟨rfl, (Below.refl _ _).alloc (Nat.le_refl _) _⟩
theorem cmpI_lt {a i : Int} (h : a < i) : cmpV a i = -1 := by unfold cmpV; rw [if_pos h]
theorem cmpI_gt {a i : Int} (h : i < a) : cmpV a i = 1 := by unfold cmpV; rw [if_neg (by omega), if_pos h]
theorem cmpI_eq {a i : Int} (h : a = i) : cmpV a i = 0 := by unfold cmpV; rw [if_neg (by omega), if_neg (by omega)]
def BsPost (l : List (Int × Int)) (idx : Int) (e : Ending) : Prop := ∃ (k : Nat) (b : Bool), e = .returned (.tuple #[.int .i64 k, .bool b]) ∧ (b = true → ∃ p, l[k]? = some p ∧ p.1 = idx) ∧ (b = false → ∀ p ∈ l, p.1 ≠ idx)
def BsRel (l : List (Int × Int)) (idx : Int) (w0 : World) (vi vj : Value) (wr : World) : Prop :=
  ∃ i j : Nat, i ≤ j ∧ j ≤ l.length ∧ vi = .int .i64 i ∧ vj = .int .i64 j ∧ (∀ m p, m < i → l[m]? = some p → p.1 < idx) ∧ (∀ m p, j ≤ m → l[m]? = some p → idx ≤ p.1) ∧ Below w0.heap.size w0 wr
theorem asc_at {l : List (Int × Int)} (h : Asc l) {a b : Nat} {p q : Int × Int} (hab : a < b) (hp : l[a]? = some p) (hq : l[b]? = some q) : p.1 < q.1 := by
  obtain ⟨ha, rfl⟩ := List.getElem?_eq_some_iff.1 hp
  obtain ⟨hb, rfl⟩ := List.getElem?_eq_some_iff.1 hq
  exact List.pairwise_iff_getElem.1 h a b ha hb hab
set_option maxHeartbeats 2000000 in
set_option maxRecDepth 100000 in
theorem bsearch_any (A : Option Addr) (c : Nat) (l : List (Int × Int)) (idx : Int) (w : World) (hP : Bk w A l) (ha : Asc l) (hl : l.length ≤ 1100) :
    Calls Try.prog 92 #[.slice A l.length c, .int .i64 idx, .func (.func 93) #[] #[]] w fun e w' => BsPost l idx e ∧ Below w.heap.size w w' := by
  have HP := Lib.hid hP
  have HA := Lib.hid ha
  clear hP ha
  go_enter Try.func92, Try.ntmps92
  go_wp2_with fail
  go_loopw [9, 10] (fun vi vj wr => BsRel l idx w vi vj wr) (fun vi vj _ => (intOf vj).toNat - (intOf vi).toNat)
  case atStart => exact ⟨0, l.length, by omega, by omega, rfl, rfl, fun m p h => by omega, fun m p h hp => by have := (List.getElem?_eq_some_iff.1 hp).1; omega, Below.refl _ _⟩
  case round =>
    obtain ⟨i, j, hij, hjl, rfl, rfl, hlo, hhi, hb⟩ := hrel
    have HL := Lib.hid (And.intro hlo hhi)
    have HB := Lib.hid hb
    clear hlo hhi hb
    by_cases hlt : i < j
    · obtain ⟨h, hh⟩ : ∃ h : Nat, (i + j) / 2 = h := ⟨_, rfl⟩
      have hhi : ((i : Int) + (j : Int)) / 2 = (h : Int) := by rw [← hh]; push_cast; rfl
      have h1 : i ≤ h := by omega
      have h2 : h < j := by omega
      have hhl : h < l.length := by omega
      clear hh
      obtain ⟨b', off', rfl, hc'⟩ := (HP.out.below HB.out).some_ (by omega)
      obtain ⟨p, hp⟩ := getElem?_lt hhl
      obtain ⟨q1, q2⟩ := hc' h p hp
      have HPP := Lib.hid hp
      obtain ⟨pi, pc⟩ := p
      simp only at q1 q2
      have hlb := block_lt_of_cell q1
      simp only at hlb
      clear hc' hp
      have hhlI : (h : Int) < (l.length : Int) := by omega
      by_cases hc : pi < idx
      · have HC := Lib.hid hc
        clear hc
        go_wp2_with (rw [hhi])
        refine (atcmp_any _ _ _ _ _ (cmpI_lt HC.out)).mono ?_
        rintro e w2 ⟨rfl, hb2⟩
        have HB2 := Lib.hid (HB.out.trans (hb2.mono HB.out.size))
        clear hb2
        go_wp2_with fail
        go_roundw
        case rel =>
          refine ⟨h + 1, j, by omega, hjl, by go_num, rfl, fun m q hm hq => ?_, HL.out.2, HB2.out⟩
          by_cases hmh : m = h
          · subst hmh
            have e := HPP.out.symm.trans hq
            simp at e
            rw [← e]; exact HC.out
          · have := asc_at HA.out (show m < h by omega) hq HPP.out
            have := HC.out
            simp only at *
            omega
        case measure => simp [intOf]; omega
      · have HC := Lib.hid (show 0 ≤ cmpV pi idx from by unfold cmpV; rw [if_neg hc]; split <;> omega)
        have HC2 := Lib.hid (show idx ≤ pi by omega)
        obtain ⟨v, hv⟩ : ∃ v, cmpV pi idx = v := ⟨_, rfl⟩
        have hv0 : ¬ v < 0 := by have := HC.out; omega
        clear hc
        go_wp2_with (rw [hhi])
        refine (atcmp_any _ _ _ v _ hv).mono ?_
        rintro e w2 ⟨rfl, hb2⟩
        have HB2 := Lib.hid (HB.out.trans (hb2.mono HB.out.size))
        clear hb2 hv
        go_wp2_with fail
        go_roundw
        case rel =>
          refine ⟨i, h, by omega, by omega, rfl, rfl, HL.out.1, fun m q hm hq => ?_, HB2.out⟩
          by_cases hmh : m = h
          · subst hmh
            have e := HPP.out.symm.trans hq
            simp at e
            rw [← e]; exact HC2.out
          · have := asc_at HA.out (show h < m by omega) HPP.out hq
            have := HC2.out
            simp only at *
            omega
        case measure => simp [intOf]; omega
    · obtain rfl : i = j := by omega
      by_cases hin : i < l.length
      · obtain ⟨b', off', rfl, hc'⟩ := (HP.out.below HB.out).some_ (by omega)
        obtain ⟨p, hp⟩ := getElem?_lt hin
        obtain ⟨q1, q2⟩ := hc' i p hp
        have HPP := Lib.hid hp
        obtain ⟨pi, pc⟩ := p
        simp only at q1 q2
        have hlb := block_lt_of_cell q1
        simp only at hlb
        clear hc' hp
        have hinI : (i : Int) < (l.length : Int) := by omega
        have HC2 := Lib.hid (show idx ≤ pi from HL.out.2 i _ (Nat.le_refl _) HPP.out)
        by_cases hc : pi = idx
        · have HC := Lib.hid hc
          clear hc
          go_wp2_with fail
          refine (atcmp_any _ _ _ _ _ (cmpI_eq HC.out)).mono ?_
          rintro e w2 ⟨rfl, hb2⟩
          have HB2 := Lib.hid (HB.out.trans (hb2.mono HB.out.size))
          clear hb2
          go_wp2_with fail
          go_ret2
          exact ⟨⟨i, true, rfl, fun _ => ⟨_, HPP.out, HC.out⟩, fun h => by cases h⟩, HB2.out⟩
        · have HC := Lib.hid (show idx < pi by have := HC2.out; omega)
          clear hc
          go_wp2_with fail
          refine (atcmp_any _ _ _ _ _ (cmpI_gt HC.out)).mono ?_
          rintro e w2 ⟨rfl, hb2⟩
          have HB2 := Lib.hid (HB.out.trans (hb2.mono HB.out.size))
          clear hb2
          go_wp2_with fail
          go_ret2
          refine ⟨⟨i, false, rfl, (fun h => by cases h), fun _ q hq => ?_⟩, HB2.out⟩
          obtain ⟨m, hm, rfl⟩ := List.getElem_of_mem hq
          have hq' : l[m]? = some l[m] := List.getElem?_eq_getElem hm
          by_cases hmi : m < i
          · have := HL.out.1 m _ hmi hq'; omega
          · by_cases hme : m = i
            · subst hme
              have e := HPP.out.symm.trans hq'
              simp at e
              rw [← e]; have := HC.out; simp only; omega
            · have := asc_at HA.out (show i < m by omega) HPP.out hq'
              have := HC.out
              simp only at *
              omega
      · have hinI : ¬ (i : Int) < (l.length : Int) := by omega
        go_wp2_with fail
        go_ret2
        refine ⟨⟨i, false, rfl, (fun h => by cases h), fun _ q hq => ?_⟩, HB.out⟩
        obtain ⟨m, hm, rfl⟩ := List.getElem_of_mem hq
        have := HL.out.1 m _ (by omega) (List.getElem?_eq_getElem hm)
        omega
theorem bs_yes {l : List (Int × Int)} (ha : Asc l) {k : Nat} {p : Int × Int} {idx : Int} (hp : l[k]? = some p) (he : p.1 = idx) : atI l idx = p.2 := by
  refine atI_asc ha ?_
  rw [← he]
  exact List.mem_of_getElem? hp
end Go.Proofs.Ytbibhjcmdehdbaa
