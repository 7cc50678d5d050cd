/- less: buckets less others, bucket by bucket. -/
import Derived.Test.YtbibhjcmdehdbaaMdG
import Derived.Test.YtbibhjcmdehdbaaHsX
namespace Go.Proofs.Ytbibhjcmdehdbaa
open Go.RowKit Go.Sort Go.Maps
set_option linter.unusedVariables false

/-- each bucket less what it has in another list -/
def subL (P Q : List (Int × Int)) : List (Int × Int) := P.map fun p => (p.1, p.2 - atI Q p.1)
/-- has the first list as much as the second one, bucket by bucket? -/
def lessB (P Q : List (Int × Int)) : Bool := Q.all fun q => decide (q.2 ≤ atI P q.1)
theorem subL_length (P Q : List (Int × Int)) : (subL P Q).length = P.length := List.length_map ..
theorem subL_nil (P : List (Int × Int)) : subL P [] = P := by
  unfold subL
  conv => rhs; rw [← List.map_id P]
  exact List.map_congr_left fun p _ => by simp [atI]
theorem subL_at {P Q : List (Int × Int)} {k : Nat} {p : Int × Int} (h : P[k]? = some p) : (subL P Q)[k]? = some (p.1, p.2 - atI Q p.1) := by
  unfold subL
  rw [List.getElem?_map, h]; rfl
theorem subL_asc {P : List (Int × Int)} (h : Asc P) (Q : List (Int × Int)) : Asc (subL P Q) := by
  unfold subL Asc
  rw [List.pairwise_map]
  exact h
/-- one more bucket taken off: the k-th of the list gets less -/
theorem subL_snoc {P Q : List (Int × Int)} (ha : Asc P) {k : Nat} {p q : Int × Int} (hk : P[k]? = some p) (he : p.1 = q.1) : subL P (Q ++ [q]) = (subL P Q).set k (p.1, p.2 - atI Q p.1 - q.2) := by
  refine List.ext_getElem? fun j => ?_
  by_cases hj : j = k
  · subst hj
    rw [subL_at hk, List.getElem?_set_self (by rw [subL_length]; exact (List.getElem?_eq_some_iff.1 hk).1), atI_snoc, if_pos he.symm]
    congr 2
    omega
  · rw [List.getElem?_set_ne (fun h => hj h.symm)]
    rcases hP : P[j]? with _ | p'
    · have : P.length ≤ j := List.getElem?_eq_none_iff.1 hP
      rw [List.getElem?_eq_none_iff.2 (by rw [subL_length]; exact this), List.getElem?_eq_none_iff.2 (by rw [subL_length]; exact this)]
    · rw [subL_at hP, subL_at hP, atI_snoc, if_neg]
      intro e
      have : p'.1 = p.1 := by rw [he, e]
      rcases Nat.lt_or_gt_of_ne hj with h | h
      · have := asc_at ha h hP hk; omega
      · have := asc_at ha h hk hP; omega
/-- a list of rising indices has nothing of the next one's index ahead of it -/
theorem atI_take {Q : List (Int × Int)} (ha : Asc Q) {j : Nat} {q : Int × Int} (hq : Q[j]? = some q) : atI (Q.take j) q.1 = 0 := by
  refine atI_none fun p hp => ?_
  obtain ⟨i, hi, rfl⟩ := List.getElem_of_mem hp
  have hi' : i < j := by rw [List.length_take] at hi; omega
  have h1 : Q[i]? = some (Q.take j)[i] := by
    rw [← List.getElem?_take_of_lt hi']
    exact List.getElem?_eq_getElem hi
  have := asc_at ha hi' h1 hq
  omega
theorem lessB_no {P Q : List (Int × Int)} {q : Int × Int} (hq : q ∈ Q) (h : ¬ q.2 ≤ atI P q.1) : lessB P Q = false := by
  unfold lessB
  rw [List.all_eq_false]
  exact ⟨q, hq, by simpa using h⟩
theorem lessB_yes {P Q : List (Int × Int)} (h : ∀ q ∈ Q, q.2 ≤ atI P q.1) : lessB P Q = true := List.all_eq_true.2 fun q hq => by simpa using h q hq
def LessP (w : World) (P Q : List (Int × Int)) (e : Ending) (w' : World) : Prop :=
  (lessB P Q = false ∧ e = .returned (.tuple #[.slice none 0 0, .bool false]) ∧ Below w.heap.size w w') ∨
  (lessB P Q = true ∧ ∃ A c, e = .returned (.tuple #[.slice A P.length c, .bool true]) ∧ Bk w' A (subL P Q) ∧ Below w.heap.size w w' ∧ NewA w A)
theorem OwnC.below {w0 w w' : World} {A : Option Addr} {c : Nat} {X : List (Int × Int)} (h : OwnC w0 w A c X) (hb : Below w.heap.size w w') : OwnC w0 w' A c X := ⟨own_below h.1 hb, h.2.trans (hb.mono h.2.size)⟩
theorem OwnC.drewN {w0 w : World} {A : Option Addr} {c : Nat} {X : List (Int × Int)} (h : OwnC w0 w A c X) (n : Nat) : OwnC w0 (w.drewN n) A c X := ⟨h.1, below_drewN h.2 n⟩
theorem OwnC.drew {w0 w : World} {A : Option Addr} {c : Nat} {X : List (Int × Int)} (h : OwnC w0 w A c X) : OwnC w0 w.drew A c X := ⟨h.1, Below.drew h.2⟩
theorem subL_wb {P Q : List (Int × Int)} (hP : ∀ p ∈ P, Wb p) (hQ : Nn Q) (h : ∀ p ∈ P, atI Q p.1 ≤ p.2) : ∀ p ∈ subL P Q, Wb p := fun p hp => by
  obtain ⟨q, hq, rfl⟩ := List.mem_map.1 hp
  obtain ⟨a, b, c, d⟩ := hP q hq
  have h1 := h q hq
  have h2 := (hQ.at q.1).1
  exact ⟨a, b, by simp only; omega, by simp only; omega⟩
theorem less_all {P Q : List (Int × Int)} (aP : Asc P) (nP : Nn P) (aQ : Asc Q) (h : ∀ q ∈ Q, q.2 ≤ atI P q.1) : ∀ p ∈ P, atI Q p.1 ≤ p.2 := fun p hp => by
  by_cases h0 : atI Q p.1 = 0
  · rw [h0]; exact nP p hp
  · obtain ⟨q, hq, e⟩ := at_mem h0
    have h1 := h q hq
    rw [e, atI_asc aP (i := p.1) (n := p.2) hp] at h1
    rw [← e, atI_asc aQ (i := q.1) (n := q.2) hq]
    exact h1
theorem asc_take {l : List (Int × Int)} (h : Asc l) (k : Nat) : Asc (l.take k) := List.Pairwise.sublist (List.take_sublist k l) h
set_option maxHeartbeats 3000000 in
set_option maxRecDepth 100000 in
theorem less_any' (A B : Option Addr) (c d : Nat) (P Q : List (Int × Int)) (w : World) (hP : Bk w A P) (hQ : Bk w B Q) (aP : Asc P) (aQ : Asc Q) (nP : Nn P) (pQ : Pos Q) (lP : P.length ≤ 1000) (lQ : Q.length ≤ 1000) :
    Calls Try.prog 52 #[.slice A P.length c, .slice B Q.length d] w (LessP w P Q) := by
  have HP := Lib.hid hP
  have HQ := Lib.hid hQ
  have HA := Lib.hid (And.intro aP aQ)
  have HN := Lib.hid (And.intro nP pQ)
  have hlen : (Q.length : Int) ≤ 1000 := by omega
  clear hP hQ aP aQ nP pQ
  go_enter Try.func52, Try.ntmps52
  go_wp2_with fail
  refine (cloneB_any _ _ _ _ HP.out (by omega)).mono ?_
  rintro e w1 ⟨A1, c1, rfl, ⟨ho, hb⟩, hb1⟩
  have HO := Lib.hid (show OwnC w w1 A1 c1 P from ⟨ho, hb1⟩)
  clear ho hb hb1
  go_wp2_with fail
  go_loopw [15] (fun i wr => ∃ j : Nat, j ≤ Q.length ∧ i = .int .i64 j ∧ Hid (∀ q ∈ Q.take j, q.2 ≤ atI P q.1) ∧ Hid (OwnC w wr A1 c1 (subL P (Q.take j)))) (fun i _ => Q.length - (intOf i).toNat)
  case atStart => exact ⟨0, by omega, rfl, Lib.hid (by simp), Lib.hid (by rw [List.take_zero, subL_nil]; exact HO.out)⟩
  case round =>
    obtain ⟨j, hj, rfl, HF, HR⟩ := hrel
    by_cases hlt : j < Q.length
    · have hki : (j : Int) < (Q.length : Int) := by omega
      obtain ⟨b, off, rfl, hc⟩ := (HQ.out.below HR.out.2).some_ (by omega)
      obtain ⟨q, hq⟩ := getElem?_lt hlt
      obtain ⟨q1, q2⟩ := hc j q hq
      have HT := Lib.hid (take_snoc Q j q hq)
      have HM := Lib.hid (mem_of_at hq)
      have H0 := Lib.hid (atI_take HA.out.2 hq)
      have hwq := HQ.out.2.1 q (mem_of_at hq)
      have hpos := HN.out.2 q (mem_of_at hq)
      obtain ⟨qi, qc⟩ := q
      simp only at q1 q2 hwq hpos H0
      have hlb := block_lt_of_cell q1
      simp only at hlb
      have hwb : ∀ p ∈ subL P (Q.take j), Wb p := subL_wb HP.out.2.1 (fun p hp => Int.le_of_lt (HN.out.2 p (List.mem_of_mem_take hp))) (less_all HA.out.1 HN.out.1 (asc_take HA.out.2 j) HF.out)
      have hbl : Below wr.heap.size wr (wr.alloc (.cells #[.int .i64 qi, .int .u64 qc] 80)) := (Below.refl _ _).alloc (Nat.le_refl _) _
      have HR1 := Lib.hid (HR.out.below hbl)
      have hbs := bsearch_any A1 c1 (subL P (Q.take j)) qi (wr.alloc (.cells #[.int .i64 qi, .int .u64 qc] 80)) (HR1.out.bk hwb (by rw [subL_length]; omega)) (subL_asc HA.out.1 _) (by rw [subL_length]; omega)
      rw [subL_length] at hbs
      have HBS := Lib.hid hbs
      have hbx := box2 (heap_alloc_new wr (.cells #[.int .i64 qi, .int .u64 qc] 80))
      clear hc hq hbs hwb hbl
      go_wp2_with fail
      refine HBS.out.mono ?_
      rintro e w2 ⟨⟨k, bb, rfl, hy, hno⟩, hb2⟩
      have HR2 := Lib.hid (HR1.out.below hb2)
      have hx0 := (Kept.of_below hb2) _ _ hbx.1
      have hx1 := (Kept.of_below hb2) _ _ hbx.2
      have hxl := block_lt_of_cell hx0
      simp only at hxl
      have HY := Lib.hid (And.intro hy hno)
      clear hy hno hb2 hbx
      cases bb with
      | false =>
        have HL := Lib.hid (show lessB P Q = false from lessB_no HM.out (by
          have h1 := HY.out.2 rfl
          have : atI P qi = 0 := atI_none fun p hp e => h1 (p.1, p.2 - atI (Q.take j) p.1) (List.mem_map.2 ⟨p, hp, rfl⟩) e
          rw [this]; simp only; omega))
        go_wp2_with fail
        go_quiet (fail)
        go_wp2_with fail
        go_ret2
        exact .inl ⟨HL.out, rfl, by first | exact HR2.out.2 | exact below_drewN HR2.out.2 _ | exact below_drewN (below_drewN HR2.out.2 _) _⟩
      | true =>
        obtain ⟨p', hp', hpi⟩ := HY.out.1 rfl
        have hkl : k < P.length := by have := (List.getElem?_eq_some_iff.1 hp').1; rwa [subL_length] at this
        obtain ⟨p, hp⟩ := getElem?_lt hkl
        rw [subL_at hp] at hp'
        injection hp' with hp'
        subst hp'
        simp only at hpi
        have hpq : p.2 - atI (Q.take j) p.1 = p.2 := by rw [hpi, H0.out]; omega
        have hat : atI P qi = p.2 := bs_yes HA.out.1 hp hpi
        obtain ⟨g, rfl⟩ := HR2.out.some_ (by rw [subL_length]; omega)
        obtain ⟨m0, m1, m2, m3, m4⟩ := RowB.at ⟨HR2.out.1, HR2.out.2⟩ (subL_at (Q := Q.take j) hp)
        have hwp := (HP.out.2.1 p (mem_of_at hp)).2.2
        simp only at m0 m1
        rw [hpq] at m1
        obtain ⟨pi, pc⟩ := p
        simp only at m0 m1 hpi hpq hat hwp
        have hkI : (k : Int) < (P.length : Int) := by omega
        by_cases hc : pc < qc
        · have HL := Lib.hid (show lessB P Q = false from lessB_no HM.out (by rw [hat]; simp only; omega))
          have d1 : decide (pc < qc) = true := by simpa using hc
          clear hc hpi hpq hat hp
          go_wp2_with fail
          go_quiet (fail)
          go_wp2_with fail
          go_ret2
          exact .inl ⟨HL.out, rfl, by first | exact HR2.out.2 | exact below_drewN HR2.out.2 _ | exact below_drewN (below_drewN HR2.out.2 _) _⟩
        · have d1 : decide (pc < qc) = false := by simpa using hc
          have hle : qc ≤ pc := by omega
          have HF2 := Lib.hid (show ∀ q ∈ Q.take (j + 1), q.2 ≤ atI P q.1 from by rw [HT.out]; exact all_snoc HF.out (by rw [hat]; exact hle))
          have HS := Lib.hid (fun n => (HR2.out.drewN n).set (k * 2 + 1) (.int .u64 (pc - qc)) (subL P (Q.take (j + 1))) (by rw [HT.out, subL_snoc HA.out.1 hp hpi]; simp only; rw [hpq]; exact cellsL_setc _ k _ _ (subL_at hp)) (by rw [subL_length, subL_length]))
          clear hc hpi hpq hat hp
          go_wp2_with fail
          go_quiet (fail)
          go_wp2_with fail
          go_region_with (fail)
          all_goals (go_wp2_with fail)
          all_goals
            exact ⟨⟨j + 1, by omega, by go_num, HF2, Lib.hid (HS.out _)⟩, by simp [intOf]; omega⟩
    · obtain rfl : j = Q.length := by omega
      have hki : ¬ ((Q.length : Int) < (Q.length : Int)) := by omega
      have hF := HF.out
      have hR := HR.out
      rw [List.take_length] at hF hR
      have H1 := Lib.hid (hR.bk (subL_wb HP.out.2.1 (HN.out.2.nn) (less_all HA.out.1 HN.out.1 HA.out.2 hF)) (by rw [subL_length]; omega))
      have H2 := Lib.hid (And.intro hR.2 hR.new)
      have H3 := Lib.hid (lessB_yes hF)
      clear hF hR HF HR
      go_wp2_with fail
      go_ret2
      exact .inr ⟨H3.out, A1, c1, rfl, H1.out, H2.out.1, H2.out.2⟩
end Go.Proofs.Ytbibhjcmdehdbaa
