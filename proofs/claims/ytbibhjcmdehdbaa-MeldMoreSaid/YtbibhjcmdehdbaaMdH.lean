/- Make by the plain model; swallow. -/
import Derived.Test.YtbibhjcmdehdbaaMdG
import Derived.Test.YtbibhjcmdehdbaaHsT
namespace Go.Proofs.Ytbibhjcmdehdbaa
open Go.RowKit Go.Sort Go.Maps
set_option linter.unusedVariables false

@[reducible] def hvA (h : HV) (A B : Option Addr) (c d : Nat) : Value := .agg #[.int .i64 h.k, .int .i64 h.s, .int .i64 h.z, .int .u64 h.zc, .int .u64 h.ct, .int .i64 h.sm, .slice A h.P.length c, .slice B h.Q.length d]
/-- a histogram and an error are returned; memory grows -/
def RetH (w : World) (r : HV) (E : Int) (e : Ending) (w' : World) : Prop :=
  ∃ (A B : Option Addr) (c d : Nat), e = .returned (.tuple #[hvA r A B c d, .int .i64 E]) ∧ Bk w' A r.P ∧ Bk w' B r.Q ∧ Below w.heap.size w w' ∧ NewA w A ∧ NewA w B
def mkR (h : HV) (P Q : List (Int × Int)) : HV := { h with ct := h.zc + cnt P + cnt Q, P := tidy P, Q := tidy Q }
def mkE (h : HV) (P Q : List (Int × Int)) : Int := if 18446744073709551615 < h.zc + cnt P + cnt Q then 5 else chk (mkR h P Q)
def mkO (h : HV) (P Q : List (Int × Int)) : HV := if mkE h P Q = 0 then mkR h P Q else zeroV
theorem wb_nn {l : List (Int × Int)} (h : ∀ p ∈ l, Wb p) : Nn l := fun p hp => (h p hp).2.2.1
theorem side_tidyP {s : Int} {P Q X : List (Int × Int)} (hw : ∀ p ∈ P, Wb p) (a : Asc X) (h : Side (gF s P Q) s 1 X) : X = tidy P := by
  refine asc_unique a (tidy_asc P) fun p => ?_
  obtain ⟨i, n⟩ := p
  rw [pos_mem (tidy_asc P) (tidy_pos (wb_nn hw)), atI_tidy]
  have e : gF s P Q 1 s i = atI P i := by unfold gF; simp
  constructor
  · intro hx
    have h1 := (h.2.2 i n (h.2.1 _ hx)).1 hx
    rw [e] at h1
    exact h1
  · rintro ⟨h1, h2⟩
    obtain ⟨q, hq, hqi⟩ := at_mem (l := P) (i := i) (by omega)
    have hq1 := hw q hq
    exact (h.2.2 i n ⟨by rw [← hqi]; exact hq1.1, by rw [← hqi]; exact hq1.2.1⟩).2 ⟨by rw [e]; exact h1, h2⟩
theorem side_tidyQ {s : Int} {P Q X : List (Int × Int)} (hw : ∀ p ∈ Q, Wb p) (a : Asc X) (h : Side (gF s P Q) s (-1) X) : X = tidy Q := by
  refine asc_unique a (tidy_asc Q) fun p => ?_
  obtain ⟨i, n⟩ := p
  rw [pos_mem (tidy_asc Q) (tidy_pos (wb_nn hw)), atI_tidy]
  have e : gF s P Q (-1) s i = atI Q i := by unfold gF; simp
  constructor
  · intro hx
    have h1 := (h.2.2 i n (h.2.1 _ hx)).1 hx
    rw [e] at h1
    exact h1
  · rintro ⟨h1, h2⟩
    obtain ⟨q, hq, hqi⟩ := at_mem (l := Q) (i := i) (by omega)
    have hq1 := hw q hq
    exact (h.2.2 i n ⟨by rw [← hqi]; exact hq1.1, by rw [← hqi]; exact hq1.2.1⟩).2 ⟨by rw [e]; exact h1, h2⟩
theorem mk_out {h : HV} {P Q : List (Int × Int)} (hP : ∀ p ∈ P, Wb p) (hQ : ∀ p ∈ Q, Wb p) {k' s' z' zc' ct' sm' : Int} {X Y : List (Int × Int)} {E : Int} (m : MkOut h.k h.s h.z h.zc h.sm P Q k' s' z' zc' ct' sm' X Y E) :
    E = mkE h P Q ∧ HV.mk k' s' z' zc' ct' sm' X Y = mkO h P Q := by
  have ec : h.zc + cnt (P ++ Q) = h.zc + cnt P + cnt Q := by rw [cnt_append]; omega
  rcases m with ⟨hE, ⟨rfl, rfl, rfl, rfl, rfl, rfl, rfl, rfl⟩, h5 | ⟨hc, X0, Y0, a1, a2, s1, s2, he⟩⟩ | ⟨rfl, hc, a1, a2, s1, s2, hk, rfl, rfl, rfl, rfl, rfl, rfl⟩
  · have e1 : mkE h P Q = 5 := by unfold mkE; rw [if_pos (by omega)]
    exact ⟨by rw [e1]; exact h5.2, by unfold mkO; rw [e1, if_neg (by decide)]; rfl⟩
  · rw [side_tidyP hP a1 s1, side_tidyQ hQ a2 s2, ec] at he
    have e1 : mkE h P Q = E := by unfold mkE; rw [if_neg (by omega)]; exact he.symm
    exact ⟨e1.symm, by unfold mkO; rw [e1, if_neg hE]; rfl⟩
  · rw [side_tidyP hP a1 s1, side_tidyQ hQ a2 s2, ec] at *
    have e1 : mkE h P Q = 0 := by unfold mkE; rw [if_neg (by omega)]; exact hk
    exact ⟨e1.symm, by unfold mkO; rw [e1, if_pos rfl]; rfl⟩
theorem make_hv (h : HV) (ct : Int) (A0 B0 A B : Option Addr) (n0 c0 m0 d0 c d : Nat) (P Q : List (Int × Int)) (w : World) (hs : I64 h.s) (z0 : 0 ≤ h.zc) (z1 : h.zc ≤ 18446744073709551615) (hP : Bk w A P) (hQ : Bk w B Q) (hlp : P.length ≤ 1100) (hlq : Q.length ≤ 1100) :
    Calls Try.prog 40 #[.agg #[.int .i64 h.k, .int .i64 h.s, .int .i64 h.z, .int .u64 h.zc, .int .u64 ct, .int .i64 h.sm, .slice A0 n0 c0, .slice B0 m0 d0], .slice A P.length c, .slice B Q.length d] w (RetH w (mkO h P Q) (mkE h P Q)) := by
  refine (make_res h.k h.s h.z h.zc ct h.sm A0 B0 A B n0 c0 m0 d0 c d P Q w hs z0 z1 hP hQ hlp hlq).mono ?_
  rintro e w' ⟨k', s', z', zc', ct', sm', A', C', c', d', X, Y, E, rfl, m, hX, hY, _, _, nA, hb⟩
  obtain ⟨rfl, e2⟩ := mk_out hP.2.1 hQ.2.1 m
  rw [← e2]
  exact ⟨A', C', c', d', rfl, hX, hY, hb, nA⟩
/-- the result under other names -/
theorem RetH.as {w : World} {r r' : HV} {E E' : Int} (hr : r = r') (hE : E = E') {e : Ending} {w' : World} (h : RetH w r E e w') : RetH w r' E' e w' := by
  subst hr hE; exact h
theorem swG_parts {h : HV} (g : Good h) {u : Int} (hu : zr u) : Good (swG h u) ∧ cnt (keepL h.s (outF h.s (h.P ++ h.Q) u) h.P) + goneN h.s (outF h.s (h.P ++ h.Q) u) h.P = cnt h.P := ⟨by
  have c1 := keep_gone h.s (outF h.s (h.P ++ h.Q) u) h.P
  have c2 := keep_gone h.s (outF h.s (h.P ++ h.Q) u) h.Q
  have n1 : 0 ≤ goneN h.s (outF h.s (h.P ++ h.Q) u) h.P := g.nP.cw _
  have n2 : 0 ≤ goneN h.s (outF h.s (h.P ++ h.Q) u) h.Q := g.nQ.cw _
  have g0 := g.zc
  have gc := g.ct
  exact { k := g.k, s := g.s, zc := by show 0 ≤ h.zc + _ + _; omega, ct := by { show h.zc + goneN h.s (outF h.s (h.P ++ h.Q) u) h.P + goneN h.s (outF h.s (h.P ++ h.Q) u) h.Q + cnt (tidy _) + cnt (tidy _) = h.ct; rw [cnt_tidy, cnt_tidy]; omega }, big := g.big, sm := g.sm,
          nP := (tidy_pos (g.nP.filter _)).nn, nQ := (tidy_pos (g.nQ.filter _)).nn, iP := fun p hp => by { obtain ⟨q, hq, e⟩ := mem_tidy hp; rw [← e]; exact g.iP q (List.mem_filter.1 hq).1 }, iQ := fun p hp => by { obtain ⟨q, hq, e⟩ := mem_tidy hp; rw [← e]; exact g.iQ q (List.mem_filter.1 hq).1 } }, keep_gone _ _ _⟩
theorem swG_okG {h : HV} (g : Good h) (l1 : h.P.length ≤ 512) (l2 : h.Q.length ≤ 512) {u : Int} (hu : zr u) : Ok (swG h u) := by
  have gg := (swG_parts g hu).1
  have hz := outF_zr g.s g.inPQ hu
  have hf := outF_free g.s (h.P ++ h.Q) u
  have low : ∀ (l : List (Int × Int)), (∀ p ∈ l, p ∈ h.P ++ h.Q) → ∀ p ∈ tidy (keepL h.s (outF h.s (h.P ++ h.Q) u) l), outF h.s (h.P ++ h.Q) u ≤ un h.s (p.1 - 1) := by
    intro l hl p hp
    obtain ⟨q, hq, e⟩ := mem_tidy hp
    obtain ⟨m1, m2⟩ := List.mem_filter.1 hq
    rw [← e]
    rcases hf q (hl q m1) with e1 | e1
    · exact e1
    · unfold G at m2; simp at m2; omega
  have t1 := tidy_length (keepL h.s (outF h.s (h.P ++ h.Q) u) h.P)
  have t2 := tidy_length (keepL h.s (outF h.s (h.P ++ h.Q) u) h.Q)
  have f1 := List.length_filter_le (fun p => G h.s (outF h.s (h.P ++ h.Q) u) p.1) h.P
  have f2 := List.length_filter_le (fun p => G h.s (outF h.s (h.P ++ h.Q) u) p.1) h.Q
  exact { gg with z := hz, aP := tidy_asc _, aQ := tidy_asc _, pP := tidy_pos (g.nP.filter _), pQ := tidy_pos (g.nQ.filter _), lP := by { show (tidy (keepL _ _ _)).length ≤ 512; unfold keepL at *; omega }, lQ := by { show (tidy (keepL _ _ _)).length ≤ 512; unfold keepL at *; omega }, zP := low h.P (fun p hp => by simp [hp]), zQ := low h.Q (fun p hp => by simp [hp]) }
theorem mk_sw {h : HV} (g : Good h) (l1 : h.P.length ≤ 512) (l2 : h.Q.length ≤ 512) {u : Int} (hu : zr u) (v : Int) (hv : outF h.s (h.P ++ h.Q) u = v) :
    mkE { h with z := v, zc := h.zc + (goneN h.s v h.P + goneN h.s v h.Q) } (keepL h.s v h.P) (keepL h.s v h.Q) = 0 ∧ mkO { h with z := v, zc := h.zc + (goneN h.s v h.P + goneN h.s v h.Q) } (keepL h.s v h.P) (keepL h.s v h.Q) = swG h u := by
  subst hv
  have ok := swG_okG g l1 l2 hu
  have c1 := keep_gone h.s (outF h.s (h.P ++ h.Q) u) h.P
  have c2 := keep_gone h.s (outF h.s (h.P ++ h.Q) u) h.Q
  have gc := g.ct
  have gb := g.big
  have er : mkR { h with z := outF h.s (h.P ++ h.Q) u, zc := h.zc + (goneN h.s (outF h.s (h.P ++ h.Q) u) h.P + goneN h.s (outF h.s (h.P ++ h.Q) u) h.Q) } (keepL h.s (outF h.s (h.P ++ h.Q) u) h.P) (keepL h.s (outF h.s (h.P ++ h.Q) u) h.Q) = swG h u :=
    HV.eq rfl rfl rfl (by show h.zc + (_ + _) = h.zc + _ + _; omega) (by show h.zc + (_ + _) + _ + _ = h.ct; omega) rfl rfl rfl
  have e1 : mkE { h with z := outF h.s (h.P ++ h.Q) u, zc := h.zc + (goneN h.s (outF h.s (h.P ++ h.Q) u) h.P + goneN h.s (outF h.s (h.P ++ h.Q) u) h.Q) } (keepL h.s (outF h.s (h.P ++ h.Q) u) h.P) (keepL h.s (outF h.s (h.P ++ h.Q) u) h.Q) = 0 := by
    unfold mkE
    rw [er, if_neg (by show ¬ _ < h.zc + (_ + _) + _ + _; omega), ok.chk]
  exact ⟨e1, by unfold mkO; rw [e1, if_pos rfl, er]⟩
end Go.Proofs.Ytbibhjcmdehdbaa
