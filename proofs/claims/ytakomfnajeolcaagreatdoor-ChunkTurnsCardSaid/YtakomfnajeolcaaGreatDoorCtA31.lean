import Derived.Test.YtakomfnajeolcaaGreatDoorCtA30
set_option linter.unusedVariables false
/- Add, Sub, Alike, Reset, Same, Clone of histograms as data. -/
/-! The law MeldKeeps, for every input. -/
/-! The law MeldKeeps: its walk. -/
namespace Go.Proofs.YtakomfnajeolcaaGreatDoor
open Go.RowKit Go.Sort Go.Maps
set_option linter.unusedVariables false

/-- one histogram, as the slice of a variadic call -/
theorem Hl.one {w : World} {g : Nat} {A B : Option Addr} {c d : Nat} {h : HV} (hb : Box w g (.int .i64 h.k) (.int .i64 h.s) (.int .i64 h.z) (.int .u64 h.zc) (.int .u64 h.ct) (.int .i64 h.sm) (.slice A h.P.length c) (.slice B h.Q.length d)) (hA : Bk w A h.P) (hB : Bk w B h.Q) (z0 : 0 ≤ h.zc) (z1 : h.zc ≤ 18446744073709551615) : Hl w (some ⟨g, 0, none⟩) [h] := by
  refine ⟨by simp, .inr ⟨g, 0, rfl, fun j x hj => ?_⟩⟩
  match j, hj with
  | 0, hj =>
    simp at hj
    subst hj
    obtain ⟨a, b, c', d', e, f, g', i⟩ := hb.cells
    exact ⟨A, B, c, d, ⟨a, b, c', d', e, f, g', i⟩, hA, hB, z0, z1⟩
end Go.Proofs.YtakomfnajeolcaaGreatDoor

/-! The law MeldKeeps, for every input. -/
namespace Go.Proofs.YtakomfnajeolcaaGreatDoor
open Go.RowKit Go.Sort Go.Maps
set_option linter.unusedVariables false

end Go.Proofs.YtakomfnajeolcaaGreatDoor

/-! Add, Sub, Alike, Reset, Same, Clone of histograms as data. -/
/-! Add, Sub, Alike, Reset, Same, Clone of histograms as data. -/
/-! Sub. -/
namespace Go.Proofs.YtakomfnajeolcaaGreatDoor
open Go.RowKit Go.Sort Go.Maps
set_option linter.unusedVariables false

/-- how many the second list has at the first one's indices -/
def sumAt (P Q : List (Int × Int)) : Int := cnt (P.map fun p => (p.1, atI Q p.1))
theorem sumAt_nilQ (P : List (Int × Int)) : sumAt P [] = 0 := by
  unfold sumAt
  induction P with
  | nil => rfl
  | cons p r ih => unfold cnt at *; rw [List.map_cons, List.map_cons, List.sum_cons, ih]; rfl
theorem sumAt_consP (p : Int × Int) (r Q : List (Int × Int)) : sumAt (p :: r) Q = atI Q p.1 + sumAt r Q := by unfold sumAt; rw [List.map_cons]; simp [cnt]
theorem sumAt_none {P : List (Int × Int)} {q : Int × Int} (Q : List (Int × Int)) (h : ∀ p ∈ P, p.1 ≠ q.1) : sumAt P (q :: Q) = sumAt P Q := by
  induction P with
  | nil => rfl
  | cons p r ih =>
    rw [sumAt_consP, sumAt_consP, ih fun p hp => h p (by simp [hp])]
    have := h p (by simp)
    have e : atI (q :: Q) p.1 = atI Q p.1 := by rw [atI, if_neg (fun e => this e.symm)]; omega
    rw [e]
theorem sumAt_has {P : List (Int × Int)} (aP : Asc P) {q : Int × Int} (Q : List (Int × Int)) (h : ∃ p ∈ P, p.1 = q.1) : sumAt P (q :: Q) = q.2 + sumAt P Q := by
  induction P with
  | nil => obtain ⟨p, hp, _⟩ := h; simp at hp
  | cons p r ih =>
    obtain ⟨a1, a2⟩ := List.pairwise_cons.1 aP
    rw [sumAt_consP, sumAt_consP]
    by_cases e : p.1 = q.1
    · have e1 : atI (q :: Q) p.1 = q.2 + atI Q p.1 := by rw [atI, if_pos e.symm]
      rw [e1, sumAt_none Q fun p' hp' => by have := a1 p' hp'; omega]
      omega
    · have e1 : atI (q :: Q) p.1 = atI Q p.1 := by rw [atI, if_neg (fun h => e h.symm)]; omega
      rw [e1, ih a2 (by obtain ⟨p', hp', h'⟩ := h; rcases List.mem_cons.1 hp' with rfl | hp'; exact absurd h' e; exact ⟨p', hp', h'⟩)]
      omega
theorem sumAt_all {P : List (Int × Int)} (aP : Asc P) : ∀ {Q : List (Int × Int)}, (∀ q ∈ Q, ∃ p ∈ P, p.1 = q.1) → sumAt P Q = cnt Q
  | [], _ => sumAt_nilQ P
  | q :: r, h => by rw [sumAt_has aP r (h q (by simp)), sumAt_all aP fun x hx => h x (by simp [hx])]; simp [cnt]
theorem cnt_subL (P Q : List (Int × Int)) : cnt (subL P Q) = cnt P - sumAt P Q := by
  induction P with
  | nil => rfl
  | cons p r ih =>
    have e1 : subL (p :: r) Q = (p.1, p.2 - atI Q p.1) :: subL r Q := rfl
    have e2 : cnt ((p.1, p.2 - atI Q p.1) :: subL r Q) = p.2 - atI Q p.1 + cnt (subL r Q) := by simp [cnt]
    have e3 : cnt (p :: r) = p.2 + cnt r := by simp [cnt]
    rw [e1, e2, e3, ih, sumAt_consP]; omega
theorem lessB_iff {P Q : List (Int × Int)} : lessB P Q = true ↔ ∀ q ∈ Q, q.2 ≤ atI P q.1 :=
  ⟨fun h q hq => by have := List.all_eq_true.1 h q hq; simpa using this, lessB_yes⟩
theorem less_mem {P Q : List (Int × Int)} (pQ : Pos Q) (h : ∀ q ∈ Q, q.2 ≤ atI P q.1) : ∀ q ∈ Q, ∃ p ∈ P, p.1 = q.1 := fun q hq => at_mem (by have := h q hq; have := pQ q hq; omega)
theorem mem_subL {P Q : List (Int × Int)} {p : Int × Int} (h : p ∈ subL P Q) : ∃ q ∈ P, p = (q.1, q.2 - atI Q q.1) := by
  obtain ⟨q, hq, e⟩ := List.mem_map.1 h
  exact ⟨q, hq, e.symm⟩
def mSubV (x y : HV) : HV := { x with zc := x.zc - y.zc, sm := x.sm - y.sm }
def subOk (x y : HV) : Bool := decide (y.zc ≤ x.zc) && (lessB x.P y.P && lessB x.Q y.Q)
def mSubE (x y : HV) : Int := if subOk x y = true then (if inI64 (x.sm - y.sm) then 0 else 5) else 21
def mSubR (x y : HV) : HV := { x with zc := x.zc - y.zc, ct := x.ct - y.ct, sm := x.sm - y.sm, P := tidy (subL x.P y.P), Q := tidy (subL x.Q y.Q) }
def mSubO (x y : HV) : HV := if mSubE x y = 0 then mSubR x y else zeroV
theorem subL_nn {P Q : List (Int × Int)} (h : ∀ p ∈ P, atI Q p.1 ≤ p.2) : Nn (subL P Q) := fun p hp => by
  obtain ⟨q, hq, rfl⟩ := mem_subL hp
  have := h q hq
  show 0 ≤ q.2 - atI Q q.1
  omega
theorem mem_tsub {P Q : List (Int × Int)} {p : Int × Int} (h : p ∈ tidy (subL P Q)) : ∃ q ∈ P, q.1 = p.1 := by
  obtain ⟨r, hr, e⟩ := mem_tidy h
  obtain ⟨q, hq, rfl⟩ := mem_subL hr
  exact ⟨q, hq, e⟩
theorem sub_ok {x y : HV} (ox : Ok x) (oy : Ok y) (h : subOk x y = true) (hi : inI64 (x.sm - y.sm)) : Ok (mSubR x y) := by
  unfold subOk at h
  rw [Bool.and_eq_true, Bool.and_eq_true, decide_eq_true_eq, lessB_iff, lessB_iff] at h
  obtain ⟨h1, h2, h3⟩ := h
  have l1 := less_all ox.aP ox.nP oy.aP h2
  have l2 := less_all ox.aQ ox.nQ oy.aQ h3
  have c1 := cnt_subL x.P y.P
  have c2 := cnt_subL x.Q y.Q
  rw [sumAt_all ox.aP (less_mem oy.pP h2)] at c1
  rw [sumAt_all ox.aQ (less_mem oy.pQ h3)] at c2
  have t1 := tidy_length (subL x.P y.P)
  have t2 := tidy_length (subL x.Q y.Q)
  rw [subL_length] at t1 t2
  have g1 := ox.ct
  have g2 := oy.ct
  have g3 := ox.big
  have g4 := oy.zc
  have g5 := oy.nP.cnt
  have g6 := oy.nQ.cnt
  have g7 := ox.lP
  have g8 := ox.lQ
  exact { k := ox.k, s := ox.s, zc := by { show 0 ≤ x.zc - y.zc; omega }, ct := by { show x.zc - y.zc + cnt (tidy (subL x.P y.P)) + cnt (tidy (subL x.Q y.Q)) = x.ct - y.ct; rw [cnt_tidy, cnt_tidy]; omega }, big := by { show x.ct - y.ct ≤ _; omega }, sm := hi,
          nP := (tidy_pos (subL_nn l1)).nn, nQ := (tidy_pos (subL_nn l2)).nn, iP := fun p hp => by { obtain ⟨q, hq, e⟩ := mem_tsub hp; rw [← e]; exact ox.iP q hq }, iQ := fun p hp => by { obtain ⟨q, hq, e⟩ := mem_tsub hp; rw [← e]; exact ox.iQ q hq },
          z := ox.z, aP := tidy_asc _, aQ := tidy_asc _, pP := tidy_pos (subL_nn l1), pQ := tidy_pos (subL_nn l2), lP := by { show (tidy (subL x.P y.P)).length ≤ 512; omega }, lQ := by { show (tidy (subL x.Q y.Q)).length ≤ 512; omega },
          zP := fun p hp => by { obtain ⟨q, hq, e⟩ := mem_tsub hp; rw [← e]; exact ox.zP q hq }, zQ := fun p hp => by { obtain ⟨q, hq, e⟩ := mem_tsub hp; rw [← e]; exact ox.zQ q hq } }
theorem mk_sub {x y : HV} (ox : Ok x) (oy : Ok y) (h : subOk x y = true) (hi : inI64 (x.sm - y.sm)) :
    mkE (mSubV x y) (subL x.P y.P) (subL x.Q y.Q) = 0 ∧ mkO (mSubV x y) (subL x.P y.P) (subL x.Q y.Q) = mSubR x y := by
  have ok := sub_ok ox oy h hi
  have hct := ok.ct
  have hbig := ok.big
  have er : mkR (mSubV x y) (subL x.P y.P) (subL x.Q y.Q) = mSubR x y := HV.eq rfl rfl rfl rfl (by
    show x.zc - y.zc + cnt (subL x.P y.P) + cnt (subL x.Q y.Q) = x.ct - y.ct
    have : x.zc - y.zc + cnt (tidy (subL x.P y.P)) + cnt (tidy (subL x.Q y.Q)) = x.ct - y.ct := hct
    rw [cnt_tidy, cnt_tidy] at this
    exact this) rfl rfl rfl
  have e1 : mkE (mSubV x y) (subL x.P y.P) (subL x.Q y.Q) = 0 := by
    unfold mkE
    rw [er, if_neg (by
      have : x.zc - y.zc + cnt (tidy (subL x.P y.P)) + cnt (tidy (subL x.Q y.Q)) = x.ct - y.ct := hct
      rw [cnt_tidy, cnt_tidy] at this
      have hb : x.ct - y.ct ≤ 18446744073709551615 := hbig
      show ¬ _ < x.zc - y.zc + _ + _
      omega), ok.chk]
  exact ⟨e1, by unfold mkO; rw [e1, if_pos rfl, er]⟩
def SubOut (w : World) (a0 b0 : HV) (e : Ending) (w' : World) : Prop := ∃ x y, Alk a0 b0 x y ∧ RetH w (mSubO x y) (mSubE x y) e w'
theorem LessP.gen {w : World} {P Q : List (Int × Int)} {e : Ending} {w' : World} (h : LessP w P Q e w') : ∃ A n c b, e = .returned (.tuple #[.slice A n c, .bool b]) ∧ Below w.heap.size w w' ∧ lessB P Q = b ∧ (b = true → n = P.length ∧ Bk w' A (subL P Q) ∧ NewA w A) := by
  rcases h with ⟨h, rfl, hb⟩ | ⟨h, A, c, rfl, hA, hb, hn⟩
  · exact ⟨none, 0, 0, false, rfl, hb, h, fun h => by cases h⟩
  · exact ⟨A, P.length, c, true, rfl, hb, h, fun _ => ⟨rfl, hA, hn⟩⟩
set_option maxHeartbeats 3000000 in
set_option maxRecDepth 100000 in
theorem sub_hv (DC : DownC) (k s z zc ct sm : Int) (P Q : List (Int × Int)) (k' s' z' zc' ct' sm' : Int) (P' Q' : List (Int × Int)) (A B A' B' : Option Addr) (c d c' d' : Nat) (w : World) (hP : Bk w A P) (hQ : Bk w B Q) (hP' : Bk w A' P') (hQ' : Bk w B' Q')
    (o : Ok ⟨k, s, z, zc, ct, sm, P, Q⟩) (o' : Ok ⟨k', s', z', zc', ct', sm', P', Q'⟩) (a0 b0 : HV) (ha0 : downF ⟨k, s, z, zc, ct, sm, P, Q⟩ (min s s') = a0) (hb0' : downF ⟨k', s', z', zc', ct', sm', P', Q'⟩ (min s s') = b0) :
    Calls Tryz.prog 117 #[.agg #[.int .i64 k, .int .i64 s, .int .i64 z, .int .u64 zc, .int .u64 ct, .int .i64 sm, .slice A P.length c, .slice B Q.length d], .agg #[.int .i64 k', .int .i64 s', .int .i64 z', .int .u64 zc', .int .u64 ct', .int .i64 sm', .slice A' P'.length c', .slice B' Q'.length d']] w (SubOut w a0 b0) := by
  have HP := Lib.hid (And.intro (And.intro hP hQ) (And.intro hP' hQ'))
  have HO := Lib.hid (And.intro o o')
  have bx0 := ((Box.new w (.int .i64 k) (.int .i64 s) (.int .i64 z) (.int .u64 zc) (.int .u64 ct) (.int .i64 sm) (.slice A P.length c) (.slice B Q.length d)).alloc (.cells #[.int .i64 k', .int .i64 s', .int .i64 z', .int .u64 zc', .int .u64 ct', .int .i64 sm', .slice A' P'.length c', .slice B' Q'.length d'] 39)).alloc (.cells #[.int .i64 0, .int .i64 0, .int .i64 0, .int .u64 0, .int .u64 0, .int .i64 0, .slice none 0 0, .slice none 0 0] 39)
  have bx1 := (Box.newAt (w.alloc (.cells #[.int .i64 k, .int .i64 s, .int .i64 z, .int .u64 zc, .int .u64 ct, .int .i64 sm, .slice A P.length c, .slice B Q.length d] 39)) (w.heap.size + 1) (by simp) (.int .i64 k') (.int .i64 s') (.int .i64 z') (.int .u64 zc') (.int .u64 ct') (.int .i64 sm') (.slice A' P'.length c') (.slice B' Q'.length d')).alloc (.cells #[.int .i64 0, .int .i64 0, .int .i64 0, .int .u64 0, .int .u64 0, .int .i64 0, .slice none 0 0, .slice none 0 0] 39)
  have bx2 := Box.newAt ((w.alloc (.cells #[.int .i64 k, .int .i64 s, .int .i64 z, .int .u64 zc, .int .u64 ct, .int .i64 sm, .slice A P.length c, .slice B Q.length d] 39)).alloc (.cells #[.int .i64 k', .int .i64 s', .int .i64 z', .int .u64 zc', .int .u64 ct', .int .i64 sm', .slice A' P'.length c', .slice B' Q'.length d'] 39)) (w.heap.size + 1 + 1) (by simp) (.int .i64 0) (.int .i64 0) (.int .i64 0) (.int .u64 0) (.int .u64 0) (.int .i64 0) (.slice none 0 0) (.slice none 0 0)
  have hb := (((Below.refl w.heap.size w).alloc (Nat.le_refl _) (.cells #[.int .i64 k, .int .i64 s, .int .i64 z, .int .u64 zc, .int .u64 ct, .int .i64 sm, .slice A P.length c, .slice B Q.length d] 39)).alloc (by simp) (.cells #[.int .i64 k', .int .i64 s', .int .i64 z', .int .u64 zc', .int .u64 ct', .int .i64 sm', .slice A' P'.length c', .slice B' Q'.length d'] 39)).alloc (by simp; omega) (.cells #[.int .i64 0, .int .i64 0, .int .i64 0, .int .u64 0, .int .u64 0, .int .i64 0, .slice none 0 0, .slice none 0 0] 39)
  have HX := Lib.hid (And.intro (And.intro bx0 bx1) bx2)
  have HB := Lib.hid hb
  have HD := Lib.hid (And.intro ha0 hb0')
  clear hP hQ hP' hQ' o o' bx0 bx1 bx2 hb ha0 hb0'
  go_enter Tryz.func117, Tryz.ntmps117
  go_wp2_with fail
  generalize (((w.alloc (.cells #[.int .i64 k, .int .i64 s, .int .i64 z, .int .u64 zc, .int .u64 ct, .int .i64 sm, .slice A P.length c, .slice B Q.length d] 39)).alloc (.cells #[.int .i64 k', .int .i64 s', .int .i64 z', .int .u64 zc', .int .u64 ct', .int .i64 sm', .slice A' P'.length c', .slice B' Q'.length d'] 39)).alloc (.cells #[.int .i64 0, .int .i64 0, .int .i64 0, .int .u64 0, .int .u64 0, .int .i64 0, .slice none 0 0, .slice none 0 0] 39)) = w0 at *
  refine (alike_any DC k s z zc ct sm P Q k' s' z' zc' ct' sm' P' Q' A B A' B' c d c' d' w0 (HP.out.1.1.below HB.out) (HP.out.1.2.below HB.out) (HP.out.2.1.below HB.out) (HP.out.2.2.below HB.out) HO.out.1 HO.out.2 a0 b0 HD.out.1 HD.out.2).mono ?_
  rintro e w1 ⟨x, y, hK, A1, B1, A2, B2, c1, d1, c2, d2, rfl, ⟨hA1, hB1, hA2, hB2⟩, hb1, nA1, nB1, nA2, nB2⟩
  have hl0 := HX.out.1.1.lt
  have hl1 := HX.out.1.2.lt
  have hl2 := HX.out.2.lt
  have HX1 := Lib.hid (And.intro (And.intro (HX.out.1.1.below hb1) (HX.out.1.2.below hb1)) (HX.out.2.below hb1))
  have HB1 := Lib.hid (HB.out.trans (hb1.mono HB.out.size))
  have HS1 := Lib.hid hb1.size
  have HN := Lib.hid (And.intro (And.intro nA1 nB1) (And.intro nA2 nB2))
  have HL := Lib.hid (And.intro hl0 (And.intro hl1 hl2))
  have HA1 := Lib.hid (And.intro (And.intro hA1 hB1) (And.intro hA2 hB2))
  have HKK := Lib.hid hK
  obtain ⟨x0, x1, x2, x3, x4, x5, x6, x7⟩ := HX1.out.1.1.cells
  obtain ⟨f0, f1, f2, f3, f4, f5, f6, f7⟩ := HX1.out.1.1.frozen
  obtain ⟨y0, y1, y2, y3, y4, y5, y6, y7⟩ := HX1.out.1.2.cells
  obtain ⟨g0, g1, g2, g3, g4, g5, g6, g7⟩ := HX1.out.1.2.frozen
  have e0 := HX1.out.1.1.lt
  have e1 := HX1.out.1.2.lt
  have OXY := Lib.hid (HKK.out.oks HO.out.1 HO.out.2 HD.out.1 HD.out.2)
  clear hb1 hA1 hB1 hA2 hB2 nA1 nB1 nA2 nB2 hl0 hl1 hl2 hK
  simp only [hvA]
  go_upto_region 2 with fail
  have HX2 := Lib.hid (And.intro (And.intro (Box.off8 (HX1.out.1.1.put8 (.int .i64 x.k) (.int .i64 x.s) (.int .i64 x.z) (.int .u64 x.zc) (.int .u64 x.ct) (.int .i64 x.sm) (.slice A1 x.P.length c1) (.slice B1 x.Q.length d1)) (show w.heap.size ≠ w.heap.size + 1 by omega) (.int .i64 y.k) (.int .i64 y.s) (.int .i64 y.z) (.int .u64 y.zc) (.int .u64 y.ct) (.int .i64 y.sm) (.slice A2 y.P.length c2) (.slice B2 y.Q.length d2)) (Box.put8 (HX1.out.1.2.off8 (show w.heap.size + 1 ≠ w.heap.size by omega) (.int .i64 x.k) (.int .i64 x.s) (.int .i64 x.z) (.int .u64 x.zc) (.int .u64 x.ct) (.int .i64 x.sm) (.slice A1 x.P.length c1) (.slice B1 x.Q.length d1)) (.int .i64 y.k) (.int .i64 y.s) (.int .i64 y.z) (.int .u64 y.zc) (.int .u64 y.ct) (.int .i64 y.sm) (.slice A2 y.P.length c2) (.slice B2 y.Q.length d2))) (Box.off8 (HX1.out.2.off8 (show w.heap.size + 1 + 1 ≠ w.heap.size by omega) (.int .i64 x.k) (.int .i64 x.s) (.int .i64 x.z) (.int .u64 x.zc) (.int .u64 x.ct) (.int .i64 x.sm) (.slice A1 x.P.length c1) (.slice B1 x.Q.length d1)) (show w.heap.size + 1 + 1 ≠ w.heap.size + 1 by omega) (.int .i64 y.k) (.int .i64 y.s) (.int .i64 y.z) (.int .u64 y.zc) (.int .u64 y.ct) (.int .i64 y.sm) (.slice A2 y.P.length c2) (.slice B2 y.Q.length d2)))
  have HB2 := Lib.hid (below_set8 (below_set8 HB1.out (by omega : w.heap.size ≤ w.heap.size) (.int .i64 x.k) (.int .i64 x.s) (.int .i64 x.z) (.int .u64 x.zc) (.int .u64 x.ct) (.int .i64 x.sm) (.slice A1 x.P.length c1) (.slice B1 x.Q.length d1)) (by omega : w.heap.size ≤ w.heap.size + 1) (.int .i64 y.k) (.int .i64 y.s) (.int .i64 y.z) (.int .u64 y.zc) (.int .u64 y.ct) (.int .i64 y.sm) (.slice A2 y.P.length c2) (.slice B2 y.Q.length d2))
  have HA2 := Lib.hid (And.intro (And.intro ((HA1.out.1.1.set8 (HN.out.1.1.ne HL.out.1) (.int .i64 x.k) (.int .i64 x.s) (.int .i64 x.z) (.int .u64 x.zc) (.int .u64 x.ct) (.int .i64 x.sm) (.slice A1 x.P.length c1) (.slice B1 x.Q.length d1)).set8 (HN.out.1.1.ne HL.out.2.1) (.int .i64 y.k) (.int .i64 y.s) (.int .i64 y.z) (.int .u64 y.zc) (.int .u64 y.ct) (.int .i64 y.sm) (.slice A2 y.P.length c2) (.slice B2 y.Q.length d2)) ((HA1.out.1.2.set8 (HN.out.1.2.ne HL.out.1) (.int .i64 x.k) (.int .i64 x.s) (.int .i64 x.z) (.int .u64 x.zc) (.int .u64 x.ct) (.int .i64 x.sm) (.slice A1 x.P.length c1) (.slice B1 x.Q.length d1)).set8 (HN.out.1.2.ne HL.out.2.1) (.int .i64 y.k) (.int .i64 y.s) (.int .i64 y.z) (.int .u64 y.zc) (.int .u64 y.ct) (.int .i64 y.sm) (.slice A2 y.P.length c2) (.slice B2 y.Q.length d2))) (And.intro ((HA1.out.2.1.set8 (HN.out.2.1.ne HL.out.1) (.int .i64 x.k) (.int .i64 x.s) (.int .i64 x.z) (.int .u64 x.zc) (.int .u64 x.ct) (.int .i64 x.sm) (.slice A1 x.P.length c1) (.slice B1 x.Q.length d1)).set8 (HN.out.2.1.ne HL.out.2.1) (.int .i64 y.k) (.int .i64 y.s) (.int .i64 y.z) (.int .u64 y.zc) (.int .u64 y.ct) (.int .i64 y.sm) (.slice A2 y.P.length c2) (.slice B2 y.Q.length d2)) ((HA1.out.2.2.set8 (HN.out.2.2.ne HL.out.1) (.int .i64 x.k) (.int .i64 x.s) (.int .i64 x.z) (.int .u64 x.zc) (.int .u64 x.ct) (.int .i64 x.sm) (.slice A1 x.P.length c1) (.slice B1 x.Q.length d1)).set8 (HN.out.2.2.ne HL.out.2.1) (.int .i64 y.k) (.int .i64 y.s) (.int .i64 y.z) (.int .u64 y.zc) (.int .u64 y.ct) (.int .i64 y.sm) (.slice A2 y.P.length c2) (.slice B2 y.Q.length d2))))
  have HSZ := Lib.hid (show w0.heap.size ≤ (set8 (set8 w1 (w.heap.size) (.int .i64 x.k) (.int .i64 x.s) (.int .i64 x.z) (.int .u64 x.zc) (.int .u64 x.ct) (.int .i64 x.sm) (.slice A1 x.P.length c1) (.slice B1 x.Q.length d1)) (w.heap.size + 1) (.int .i64 y.k) (.int .i64 y.s) (.int .i64 y.z) (.int .u64 y.zc) (.int .u64 y.ct) (.int .i64 y.sm) (.slice A2 y.P.length c2) (.slice B2 y.Q.length d2)).heap.size by rw [size_set8, size_set8]; exact HS1.out)
  clear x0 x1 x2 x3 x4 x5 x6 x7 y0 y1 y2 y3 y4 y5 y6 y7 f0 f1 f2 f3 f4 f5 f6 f7 g0 g1 g2 g3 g4 g5 g6 g7 e0 e1
  generalize hW : ((((((((((((((((w1.setCell ⟨w.heap.size, 0, none⟩ (.int .i64 x.k)).setCell ⟨w.heap.size, 1, none⟩ (.int .i64 x.s)).setCell ⟨w.heap.size, 2, none⟩ (.int .i64 x.z)).setCell ⟨w.heap.size, 3, none⟩ (.int .u64 x.zc)).setCell ⟨w.heap.size, 4, none⟩ (.int .u64 x.ct)).setCell ⟨w.heap.size, 5, none⟩ (.int .i64 x.sm)).setCell ⟨w.heap.size, 6, none⟩ (.slice A1 x.P.length c1)).setCell ⟨w.heap.size, 7, none⟩ (.slice B1 x.Q.length d1)).setCell ⟨w.heap.size + 1, 0, none⟩ (.int .i64 y.k)).setCell ⟨w.heap.size + 1, 1, none⟩ (.int .i64 y.s)).setCell ⟨w.heap.size + 1, 2, none⟩ (.int .i64 y.z)).setCell ⟨w.heap.size + 1, 3, none⟩ (.int .u64 y.zc)).setCell ⟨w.heap.size + 1, 4, none⟩ (.int .u64 y.ct)).setCell ⟨w.heap.size + 1, 5, none⟩ (.int .i64 y.sm)).setCell ⟨w.heap.size + 1, 6, none⟩ (.slice A2 y.P.length c2)).setCell ⟨w.heap.size + 1, 7, none⟩ (.slice B2 y.Q.length d2)) = w2
  have hW' : set8 (set8 w1 (w.heap.size) (.int .i64 x.k) (.int .i64 x.s) (.int .i64 x.z) (.int .u64 x.zc) (.int .u64 x.ct) (.int .i64 x.sm) (.slice A1 x.P.length c1) (.slice B1 x.Q.length d1)) (w.heap.size + 1) (.int .i64 y.k) (.int .i64 y.s) (.int .i64 y.z) (.int .u64 y.zc) (.int .u64 y.ct) (.int .i64 y.sm) (.slice A2 y.P.length c2) (.slice B2 y.Q.length d2) = w2 := hW
  rw [hW'] at HX2 HB2 HA2 HSZ
  clear hW hW' HX1 HB1 HA1
  obtain ⟨x0, x1, x2, x3, x4, x5, x6, x7⟩ := HX2.out.1.1.cells
  obtain ⟨f0, f1, f2, f3, f4, f5, f6, f7⟩ := HX2.out.1.1.frozen
  obtain ⟨y0, y1, y2, y3, y4, y5, y6, y7⟩ := HX2.out.1.2.cells
  obtain ⟨g0, g1, g2, g3, g4, g5, g6, g7⟩ := HX2.out.1.2.frozen
  have e0 := HX2.out.1.1.lt
  have e1 := HX2.out.1.2.lt
  clear g0 g1 g2 g3 g4 g5 g6 g7
  go_wp2_with fail
  refine (sub_any x.zc y.zc w2 OXY.out.1.1.toGood.z1 OXY.out.1.2.zc).mono ?_
  rintro e w3 ⟨rfl, rfl⟩
  obtain ⟨ZV, hZV⟩ : ∃ v, subV x.zc y.zc = v := ⟨_, rfl⟩
  obtain ⟨ZE, hZE⟩ : ∃ v, subE x.zc y.zc = v := ⟨_, rfl⟩
  rw [hZV, hZE]
  have HZ := Lib.hid (And.intro hZV hZE)
  clear hZV hZE
  go_wp2_with fail
  refine (less_any' A1 A2 c1 c2 x.P y.P w2 HA2.out.1.1 HA2.out.2.1 OXY.out.1.1.aP OXY.out.1.2.aP OXY.out.1.1.nP OXY.out.1.2.pP (by have := OXY.out.1.1.lP; omega) (by have := OXY.out.1.2.lP; omega)).mono ?_
  intro e w3 hL
  obtain ⟨A3, n3, c3, b3, rfl, hb, hb3, hy3⟩ := hL.gen
  have HX3 := Lib.hid (And.intro (And.intro (HX2.out.1.1.below hb) (HX2.out.1.2.below hb)) (HX2.out.2.below hb))
  have HB3 := Lib.hid (HB2.out.trans (hb.mono HB2.out.size))
  have HA3 := Lib.hid (And.intro (And.intro (HA2.out.1.1.below hb) (HA2.out.1.2.below hb)) (And.intro (HA2.out.2.1.below hb) (HA2.out.2.2.below hb)))
  have HY3 := Lib.hid (And.intro hb3 (show b3 = true → n3 = x.P.length ∧ Bk w3 A3 (subL x.P y.P) ∧ NewA w0 A3 from fun h => ⟨(hy3 h).1, (hy3 h).2.1, (hy3 h).2.2.mono HSZ.out⟩))
  have HSZ3 := Lib.hid (Nat.le_trans HSZ.out hb.size)
  clear x0 x1 x2 x3 x4 x5 x6 x7 y0 y1 y2 y3 y4 y5 y6 y7 f0 f1 f2 f3 f4 f5 f6 f7 e0 e1 hL hb hb3 hy3 HX2 HB2 HA2 HSZ
  obtain ⟨x0, x1, x2, x3, x4, x5, x6, x7⟩ := HX3.out.1.1.cells
  obtain ⟨f0, f1, f2, f3, f4, f5, f6, f7⟩ := HX3.out.1.1.frozen
  obtain ⟨y0, y1, y2, y3, y4, y5, y6, y7⟩ := HX3.out.1.2.cells
  have e0 := HX3.out.1.1.lt
  have e1 := HX3.out.1.2.lt
  go_wp2_with fail
  refine (less_any' B1 B2 d1 d2 x.Q y.Q w3 HA3.out.1.2 HA3.out.2.2 OXY.out.1.1.aQ OXY.out.1.2.aQ OXY.out.1.1.nQ OXY.out.1.2.pQ (by have := OXY.out.1.1.lQ; omega) (by have := OXY.out.1.2.lQ; omega)).mono ?_
  intro e w4 hL
  obtain ⟨B3, m3, d3, b4, rfl, hb, hb4, hy4⟩ := hL.gen
  have HX4 := Lib.hid (And.intro (And.intro (HX3.out.1.1.below hb) (HX3.out.1.2.below hb)) (HX3.out.2.below hb))
  have HB4 := Lib.hid (HB3.out.trans (hb.mono HB3.out.size))
  have HA4 := Lib.hid (And.intro (And.intro (HA3.out.1.1.below hb) (HA3.out.1.2.below hb)) (And.intro (HA3.out.2.1.below hb) (HA3.out.2.2.below hb)))
  have HY4 := Lib.hid (And.intro hb4 (show b4 = true → m3 = x.Q.length ∧ Bk w4 B3 (subL x.Q y.Q) ∧ NewA w0 B3 from fun h => ⟨(hy4 h).1, (hy4 h).2.1, (hy4 h).2.2.mono HSZ3.out⟩))
  have HY3' := Lib.hid (show lessB x.P y.P = b3 ∧ (b3 = true → n3 = x.P.length ∧ Bk w4 A3 (subL x.P y.P) ∧ NewA w0 A3) from ⟨HY3.out.1, fun h => ⟨(HY3.out.2 h).1, (HY3.out.2 h).2.1.below hb, (HY3.out.2 h).2.2⟩⟩)
  have HSZ4 := Lib.hid (Nat.le_trans HSZ3.out hb.size)
  clear x0 x1 x2 x3 x4 x5 x6 x7 y0 y1 y2 y3 y4 y5 y6 y7 f0 f1 f2 f3 f4 f5 f6 f7 e0 e1 hL hb hb4 hy4 HX3 HB3 HA3 HSZ3 HY3
  obtain ⟨x0, x1, x2, x3, x4, x5, x6, x7⟩ := HX4.out.1.1.cells
  obtain ⟨f0, f1, f2, f3, f4, f5, f6, f7⟩ := HX4.out.1.1.frozen
  obtain ⟨y0, y1, y2, y3, y4, y5, y6, y7⟩ := HX4.out.1.2.cells
  have e0 := HX4.out.1.1.lt
  have e1 := HX4.out.1.2.lt
  by_cases hz : x.zc < y.zc
  · obtain rfl : ZE = 5 := by rw [← HZ.out.2]; unfold subE; rw [if_pos hz]
    have hso : subOk x y = false := by unfold subOk; rw [decide_eq_false (by omega), Bool.false_and]
    clear hz
    have hE : mSubE x y = 21 := by unfold mSubE; rw [hso, if_neg (by decide)]
    have HE := Lib.hid (show SubOut w a0 b0 (.returned (.tuple #[.agg #[.int .i64 0, .int .i64 0, .int .i64 0, .int .u64 0, .int .u64 0, .int .i64 0, .slice none 0 0, .slice none 0 0], .int .i64 21])) (set8 w4 (w.heap.size + 1 + 1) (.int .i64 0) (.int .i64 0) (.int .i64 0) (.int .u64 0) (.int .u64 0) (.int .i64 0) (.slice none 0 0) (.slice none 0 0)) from ⟨x, y, HKK.out, (RetH.zero (E := 21) (below_set8 HB4.out (by omega : w.heap.size ≤ w.heap.size + 1 + 1) (.int .i64 0) (.int .i64 0) (.int .i64 0) (.int .u64 0) (.int .u64 0) (.int .i64 0) (.slice none 0 0) (.slice none 0 0))).as (by unfold mSubO; rw [hE, if_neg (by decide)]) hE.symm⟩)
    clear hE
    obtain ⟨z0, z1, z2, z3, z4, z5, z6, z7⟩ := HX4.out.2.cells
    obtain ⟨h0, h1, h2, h3, h4, h5, h6, h7⟩ := HX4.out.2.frozen
    have e2 := HX4.out.2.lt
    go_wp2_with fail
    exact bodyPost_ret (v := .tuple #[.agg #[.int .i64 0, .int .i64 0, .int .i64 0, .int .u64 0, .int .u64 0, .int .i64 0, .slice none 0 0, .slice none 0 0], .int .i64 21]) (by simp [results, Tryz.results117, go_sem, z0, z1, z2, z3, z4, z5, z6, z7]) rfl HE.out
  · obtain rfl : ZE = 0 := by rw [← HZ.out.2]; unfold subE; rw [if_neg hz]
    have HVz := Lib.hid (show x.zc - y.zc = ZV by rw [← HZ.out.1]; unfold subV; rw [if_neg hz])
    have HZN := Lib.hid (show y.zc ≤ x.zc by omega)
    clear hz
    cases b3 with
    | false =>
      have hso : subOk x y = false := by unfold subOk; rw [HY3'.out.1, Bool.false_and, Bool.and_false]
      have hE : mSubE x y = 21 := by unfold mSubE; rw [hso, if_neg (by decide)]
      have HE := Lib.hid (show SubOut w a0 b0 (.returned (.tuple #[.agg #[.int .i64 0, .int .i64 0, .int .i64 0, .int .u64 0, .int .u64 0, .int .i64 0, .slice none 0 0, .slice none 0 0], .int .i64 21])) (set8 w4 (w.heap.size + 1 + 1) (.int .i64 0) (.int .i64 0) (.int .i64 0) (.int .u64 0) (.int .u64 0) (.int .i64 0) (.slice none 0 0) (.slice none 0 0)) from ⟨x, y, HKK.out, (RetH.zero (E := 21) (below_set8 HB4.out (by omega : w.heap.size ≤ w.heap.size + 1 + 1) (.int .i64 0) (.int .i64 0) (.int .i64 0) (.int .u64 0) (.int .u64 0) (.int .i64 0) (.slice none 0 0) (.slice none 0 0))).as (by unfold mSubO; rw [hE, if_neg (by decide)]) hE.symm⟩)
      clear hE
      obtain ⟨z0, z1, z2, z3, z4, z5, z6, z7⟩ := HX4.out.2.cells
      obtain ⟨h0, h1, h2, h3, h4, h5, h6, h7⟩ := HX4.out.2.frozen
      have e2 := HX4.out.2.lt
      go_wp2_with fail
      exact bodyPost_ret (v := .tuple #[.agg #[.int .i64 0, .int .i64 0, .int .i64 0, .int .u64 0, .int .u64 0, .int .i64 0, .slice none 0 0, .slice none 0 0], .int .i64 21]) (by simp [results, Tryz.results117, go_sem, z0, z1, z2, z3, z4, z5, z6, z7]) rfl HE.out
    | true =>
      cases b4 with
      | false =>
        have hso : subOk x y = false := by unfold subOk; rw [HY4.out.1, Bool.and_false, Bool.and_false]
        have hE : mSubE x y = 21 := by unfold mSubE; rw [hso, if_neg (by decide)]
        have HE := Lib.hid (show SubOut w a0 b0 (.returned (.tuple #[.agg #[.int .i64 0, .int .i64 0, .int .i64 0, .int .u64 0, .int .u64 0, .int .i64 0, .slice none 0 0, .slice none 0 0], .int .i64 21])) (set8 w4 (w.heap.size + 1 + 1) (.int .i64 0) (.int .i64 0) (.int .i64 0) (.int .u64 0) (.int .u64 0) (.int .i64 0) (.slice none 0 0) (.slice none 0 0)) from ⟨x, y, HKK.out, (RetH.zero (E := 21) (below_set8 HB4.out (by omega : w.heap.size ≤ w.heap.size + 1 + 1) (.int .i64 0) (.int .i64 0) (.int .i64 0) (.int .u64 0) (.int .u64 0) (.int .i64 0) (.slice none 0 0) (.slice none 0 0))).as (by unfold mSubO; rw [hE, if_neg (by decide)]) hE.symm⟩)
        clear hE
        obtain ⟨z0, z1, z2, z3, z4, z5, z6, z7⟩ := HX4.out.2.cells
        obtain ⟨h0, h1, h2, h3, h4, h5, h6, h7⟩ := HX4.out.2.frozen
        have e2 := HX4.out.2.lt
        go_wp2_with fail
        exact bodyPost_ret (v := .tuple #[.agg #[.int .i64 0, .int .i64 0, .int .i64 0, .int .u64 0, .int .u64 0, .int .i64 0, .slice none 0 0, .slice none 0 0], .int .i64 21]) (by simp [results, Tryz.results117, go_sem, z0, z1, z2, z3, z4, z5, z6, z7]) rfl HE.out
      | true =>
        have HSO := Lib.hid (show subOk x y = true by unfold subOk; rw [HY4.out.1, HY3'.out.1, decide_eq_true HZN.out]; rfl)
        obtain ⟨rfl, hA3, nA3⟩ := HY3'.out.2 rfl
        obtain ⟨rfl, hB3, nB3⟩ := HY4.out.2 rfl
        have HAB := Lib.hid (And.intro (And.intro hA3 hB3) (And.intro nA3 nB3))
        clear hA3 hB3 nA3 nB3
        obtain ⟨M, hM⟩ : ∃ M, x.sm - y.sm = M := ⟨_, rfl⟩
        have HM := Lib.hid hM
        have HSI := Lib.hid (subint_any x.sm y.sm w4 OXY.out.1.1.sm.1 OXY.out.1.1.sm.2 OXY.out.1.2.sm.1 OXY.out.1.2.sm.2)
        rw [hM] at HSI
        clear hM
        go_wp2_with fail
        refine HSI.out.mono ?_
        rintro e w5 ⟨rfl, rfl⟩
        by_cases hi : inI64 M
        · rw [(int_fits hi).1, (int_fits hi).2]
          have HI := Lib.hid (show inI64 (x.sm - y.sm) by rw [HM.out]; exact hi)
          clear hi
          have hgood : Hid (0 ≤ ZV ∧ ZV ≤ 18446744073709551615) := Lib.hid (by have h1 := HVz.out; have h2 := HZN.out; have h3 := OXY.out.1.1.toGood.z1; have h4 := OXY.out.1.2.zc; omega)
          go_wp2_with fail
          have HX5 := Lib.hid (And.intro ((HX4.out.1.1.set3 (.int .u64 ZV)).set5 (.int .i64 M)) ((HX4.out.2.off (show w.heap.size + 1 + 1 ≠ w.heap.size by omega) 3 (.int .u64 ZV)).off (show w.heap.size + 1 + 1 ≠ w.heap.size by omega) 5 (.int .i64 M)))
          have HB5 := Lib.hid ((HB4.out.setCell (p := ⟨w.heap.size, 3, none⟩) (Nat.le_refl _) (.int .u64 ZV)).setCell (p := ⟨w.heap.size, 5, none⟩) (Nat.le_refl _) (.int .i64 M))
          have HAB5 := Lib.hid (And.intro ((HAB.out.1.1.off (HAB.out.2.1.ne HL.out.1) 3 (.int .u64 ZV)).off (HAB.out.2.1.ne HL.out.1) 5 (.int .i64 M)) ((HAB.out.1.2.off (HAB.out.2.2.ne HL.out.1) 3 (.int .u64 ZV)).off (HAB.out.2.2.ne HL.out.1) 5 (.int .i64 M)))
          clear x0 x1 x2 x3 x4 x5 x6 x7 y0 y1 y2 y3 y4 y5 y6 y7 f0 f1 f2 f3 f4 f5 f6 f7 e0 e1 HX4 HB4 HA4
          generalize ((w4.setCell ⟨w.heap.size, 3, none⟩ (.int .u64 ZV)).setCell ⟨w.heap.size, 5, none⟩ (.int .i64 M)) = w5 at *
          obtain ⟨D1, hD1⟩ : ∃ L, subL x.P y.P = L := ⟨_, rfl⟩
          obtain ⟨D2, hD2⟩ : ∃ L, subL x.Q y.Q = L := ⟨_, rfl⟩
          have hn1 : x.P.length = D1.length := by rw [← hD1, subL_length]
          have hn2 : x.Q.length = D2.length := by rw [← hD2, subL_length]
          have HMK := Lib.hid (mk_sub OXY.out.1.1 OXY.out.1.2 HSO.out HI.out)
          have HVV := Lib.hid (show (⟨x.k, x.s, x.z, ZV, x.ct, M, x.P, x.Q⟩ : HV) = mSubV x y from HV.eq rfl rfl rfl HVz.out.symm rfl HM.out.symm rfl rfl)
          have hmk := make_hv ⟨x.k, x.s, x.z, ZV, x.ct, M, x.P, x.Q⟩ x.ct A1 B1 A3 B3 x.P.length c1 x.Q.length d1 c3 d3 D1 D2 w5 ⟨by have := right_yes OXY.out.1.1.s; simp only; omega, by have := right_yes OXY.out.1.1.s; simp only; omega⟩ hgood.out.1 hgood.out.2 (by rw [← hD1]; exact HAB5.out.1) (by rw [← hD2]; exact HAB5.out.2) (by have := OXY.out.1.1.lP; omega) (by have := OXY.out.1.1.lQ; omega)
          rw [← hn1, ← hn2] at hmk
          refine hmk.mono ?_
          intro e w6 hR
          rw [HVV.out, ← hD1, ← hD2] at hR
          obtain ⟨A5, B5, c5, d5, rfl, hA5, hB5, hb6, nA5, nB5⟩ := hR.as HMK.out.2 HMK.out.1
          have HX6 := Lib.hid (HX5.out.2.below hb6)
          have HR6 := Lib.hid (RetH.fin (c := c5) (d := d5) (E := 0) (g := w.heap.size + 1 + 1) (HB5.out.trans (hb6.mono HB5.out.size)) HB5.out.size HX5.out.2.lt (by omega) hA5 hB5 nA5 nB5)
          have HE0 := Lib.hid (show mSubE x y = 0 by unfold mSubE; rw [if_pos HSO.out, if_pos HI.out])
          have HRR := Lib.hid (show mSubR x y = mSubO x y by unfold mSubO; rw [if_pos HE0.out])
          obtain ⟨x0, x1, x2, x3, x4, x5, x6, x7⟩ := HX6.out.cells
          obtain ⟨f0, f1, f2, f3, f4, f5, f6, f7⟩ := HX6.out.frozen
          have hlt := HX6.out.lt
          clear hR hA5 hB5 hb6 nA5 nB5 HMK hmk hn1 hn2 hD1 hD2
          generalize mSubR x y = r at *
          obtain ⟨rk, rs, rz, rzc, rct, rsm, rP, rQ⟩ := r
          simp only [hvA]
          go_wp2_with fail
          exact bodyPost_ret (v := .tuple #[.agg #[.int .i64 rk, .int .i64 rs, .int .i64 rz, .int .u64 rzc, .int .u64 rct, .int .i64 rsm, .slice A5 rP.length c5, .slice B5 rQ.length d5], .int .i64 0]) (by simp [results, Tryz.results117, go_sem, x0, x1, x2, x3, x4, x5, x6, x7]) rfl ⟨x, y, HKK.out, (HR6.out _ _ _ _ _ _ _ _).as HRR.out HE0.out.symm⟩
        · rw [(int_over hi).1, (int_over hi).2]
          have hso := HSO.out
          rw [← HM.out] at hi
          have hE : mSubE x y = 5 := by unfold mSubE; rw [if_pos hso, if_neg hi]
          have HE := Lib.hid (show SubOut w a0 b0 (.returned (.tuple #[.agg #[.int .i64 0, .int .i64 0, .int .i64 0, .int .u64 0, .int .u64 0, .int .i64 0, .slice none 0 0, .slice none 0 0], .int .i64 5])) (set8 w4 (w.heap.size + 1 + 1) (.int .i64 0) (.int .i64 0) (.int .i64 0) (.int .u64 0) (.int .u64 0) (.int .i64 0) (.slice none 0 0) (.slice none 0 0)) from ⟨x, y, HKK.out, (RetH.zero (E := 5) (below_set8 HB4.out (by omega : w.heap.size ≤ w.heap.size + 1 + 1) (.int .i64 0) (.int .i64 0) (.int .i64 0) (.int .u64 0) (.int .u64 0) (.int .i64 0) (.slice none 0 0) (.slice none 0 0))).as (by unfold mSubO; rw [hE, if_neg (by decide)]) hE.symm⟩)
          clear hE
          obtain ⟨z0, z1, z2, z3, z4, z5, z6, z7⟩ := HX4.out.2.cells
          obtain ⟨h0, h1, h2, h3, h4, h5, h6, h7⟩ := HX4.out.2.frozen
          have e2 := HX4.out.2.lt
          go_wp2_with fail
          exact bodyPost_ret (v := .tuple #[.agg #[.int .i64 0, .int .i64 0, .int .i64 0, .int .u64 0, .int .u64 0, .int .i64 0, .slice none 0 0, .slice none 0 0], .int .i64 5]) (by simp [results, Tryz.results117, go_sem, z0, z1, z2, z3, z4, z5, z6, z7]) rfl HE.out
end Go.Proofs.YtakomfnajeolcaaGreatDoor

/-! Added, taken off, made alike: plain data. -/
namespace Go.Proofs.YtakomfnajeolcaaGreatDoor
open Go.RowKit Go.Sort Go.Maps
set_option linter.unusedVariables false

theorem down_len (h : HV) (t : Int) : (downF h t).P.length ≤ h.P.length ∧ (downF h t).Q.length ≤ h.Q.length := by
  unfold downF
  split
  · exact ⟨Nat.le_refl _, Nat.le_refl _⟩
  · have l1 := tidy_length (mv h.s t h.P)
    have l2 := tidy_length (mv h.s t h.Q)
    rw [mv_length] at l1 l2
    exact ⟨Nat.le_trans (List.length_filter_le _ _) l1, Nat.le_trans (List.length_filter_le _ _) l2⟩
theorem Cut.len {a c : HV} (h : Cut a c) : c.P.length ≤ a.P.length ∧ c.Q.length ≤ a.Q.length := by
  rw [h.eq]
  exact ⟨List.length_filter_le _ _, List.length_filter_le _ _⟩
def mAddR (x y : HV) : HV := mkR (mAddV x y) (x.P ++ y.P) (x.Q ++ y.Q)
theorem addR_ct {x y : HV} (ox : Ok x) (oy : Ok y) : (mAddR x y).ct = x.ct + y.ct := by
  show x.zc + y.zc + cnt (x.P ++ y.P) + cnt (x.Q ++ y.Q) = _
  rw [cnt_append, cnt_append]
  have := ox.ct
  have := oy.ct
  omega
/-- two made alike, and what comes of it -/
structure Two (a b x y : HV) : Prop where
  alk : Alk (downF a (min a.s b.s)) (downF b (min a.s b.s)) x y
  oa : Ok a
  ob : Ok b
theorem Two.symm {a b x y : HV} (h : Two a b x y) : Two b a y x := ⟨by rw [Int.min_comm]; exact h.alk.symm, h.ob, h.oa⟩
theorem Two.unique {a b x y x' y' : HV} (h : Two a b x y) (k : Two a b x' y') : x = x' ∧ y = y' := h.alk.unique k.alk
structure TwoIs (a b x y : HV) : Prop where
  ox : Ok x
  oy : Ok y
  s : x.s = y.s
  z : x.z = y.z
  sx : x.s = min a.s b.s
  xk : x.k = a.k
  yk : y.k = b.k
  xc : x.ct = a.ct
  yc : y.ct = b.ct
  xm : x.sm = a.sm
  ym : y.sm = b.sm
  xP : x.P.length ≤ a.P.length
  xQ : x.Q.length ≤ a.Q.length
  yP : y.P.length ≤ b.P.length
  yQ : y.Q.length ≤ b.Q.length
  cx : Cut (downF a (min a.s b.s)) x
  cy : Cut (downF b (min a.s b.s)) y
theorem Two.is {a b x y : HV} (h : Two a b x y) : TwoIs a b x y := by
  obtain ⟨⟨ox, oy⟩, s1, s2, z, c1, c2⟩ := h.alk.oks h.oa h.ob rfl rfl
  obtain ⟨p1, p2, p3⟩ := down_same a (min a.s b.s)
  obtain ⟨q1, q2, q3⟩ := down_same b (min a.s b.s)
  obtain ⟨t1, _, t2, t3⟩ := c1.same
  obtain ⟨u1, _, u2, u3⟩ := c2.same
  obtain ⟨d1, d2⟩ := down_len a (min a.s b.s)
  obtain ⟨d3, d4⟩ := down_len b (min a.s b.s)
  obtain ⟨f1, f2⟩ := c1.len
  obtain ⟨f3, f4⟩ := c2.len
  exact { ox := ox, oy := oy, s := by omega, z := z, sx := s1, xk := by omega, yk := by omega, xc := by omega, yc := by omega, xm := by omega, ym := by omega, xP := by omega, xQ := by omega, yP := by omega, yQ := by omega, cx := c1, cy := c2 }
end Go.Proofs.YtakomfnajeolcaaGreatDoor

/-! Add, Sub, Alike, Reset, Same, Clone of histograms as data. -/
namespace Go.Proofs.YtakomfnajeolcaaGreatDoor
open Go.RowKit Go.Sort Go.Maps
set_option linter.unusedVariables false

@[reducible] def hL (h : HV) (A B : Option Addr) (c d : Nat) : Value := .agg #[.int .i64 h.k, .int .i64 h.s, .int .i64 h.z, .int .u64 h.zc, .int .u64 h.ct, .int .i64 h.sm, .slice A h.P.length c, .slice B h.Q.length d]
theorem sub_h (a b : HV) (A B A' B' : Option Addr) (c d c' d' : Nat) (w : World) (hP : Bk w A a.P) (hQ : Bk w B a.Q) (hP' : Bk w A' b.P) (hQ' : Bk w B' b.Q) (oa : Ok a) (ob : Ok b) :
    Calls Tryz.prog 117 #[.agg #[.int .i64 a.k, .int .i64 a.s, .int .i64 a.z, .int .u64 a.zc, .int .u64 a.ct, .int .i64 a.sm, .slice A a.P.length c, .slice B a.Q.length d], .agg #[.int .i64 b.k, .int .i64 b.s, .int .i64 b.z, .int .u64 b.zc, .int .u64 b.ct, .int .i64 b.sm, .slice A' b.P.length c', .slice B' b.Q.length d']] w fun e w' => ∃ x y, Two a b x y ∧ RetH w (mSubO x y) (mSubE x y) e w' := by
  obtain ⟨k, s, z, zc, ct, sm, P, Q⟩ := a
  obtain ⟨k', s', z', zc', ct', sm', P', Q'⟩ := b
  refine (sub_hv downC k s z zc ct sm P Q k' s' z' zc' ct' sm' P' Q' A B A' B' c d c' d' w hP hQ hP' hQ' oa ob _ _ rfl rfl).mono ?_
  rintro e w' ⟨x, y, hk, hr⟩
  exact ⟨x, y, ⟨hk, oa, ob⟩, hr⟩
theorem sub_two' {a b x y : HV} (h : Two a b x y) (A B A' B' : Option Addr) (c d c' d' : Nat) (w : World) (hP : Bk w A a.P) (hQ : Bk w B a.Q) (hP' : Bk w A' b.P) (hQ' : Bk w B' b.Q) :
    Calls Tryz.prog 117 #[.agg #[.int .i64 a.k, .int .i64 a.s, .int .i64 a.z, .int .u64 a.zc, .int .u64 a.ct, .int .i64 a.sm, .slice A a.P.length c, .slice B a.Q.length d], .agg #[.int .i64 b.k, .int .i64 b.s, .int .i64 b.z, .int .u64 b.zc, .int .u64 b.ct, .int .i64 b.sm, .slice A' b.P.length c', .slice B' b.Q.length d']] w (RetH w (mSubO x y) (mSubE x y)) := by
  refine (sub_h a b A B A' B' c d c' d' w hP hQ hP' hQ' h.oa h.ob).mono ?_
  rintro e w' ⟨x', y', hk, hr⟩
  obtain ⟨rfl, rfl⟩ := h.unique hk
  exact hr
set_option maxHeartbeats 2000000 in
set_option maxRecDepth 100000 in
/-- was it reset: something has less -/
theorem reset_two {a b x y : HV} (h : Two b a x y) (A B A' B' : Option Addr) (c d c' d' : Nat) (w : World) (hP : Bk w A a.P) (hQ : Bk w B a.Q) (hP' : Bk w A' b.P) (hQ' : Bk w B' b.Q) (r : Bool) (hr : (mSubE x y == 21) = r) :
    Calls Tryz.prog 102 #[.agg #[.int .i64 a.k, .int .i64 a.s, .int .i64 a.z, .int .u64 a.zc, .int .u64 a.ct, .int .i64 a.sm, .slice A a.P.length c, .slice B a.Q.length d], .agg #[.int .i64 b.k, .int .i64 b.s, .int .i64 b.z, .int .u64 b.zc, .int .u64 b.ct, .int .i64 b.sm, .slice A' b.P.length c', .slice B' b.Q.length d']] w fun e w' => e = .returned (.bool r) ∧ Below w.heap.size w w' := by
  have HH := Lib.hid h
  have HR := Lib.hid hr
  have hb0 := ((Below.refl w.heap.size w).alloc (Nat.le_refl _) (.cells #[.int .i64 a.k, .int .i64 a.s, .int .i64 a.z, .int .u64 a.zc, .int .u64 a.ct, .int .i64 a.sm, .slice A a.P.length c, .slice B a.Q.length d] 39)).alloc (by simp) (.cells #[.int .i64 b.k, .int .i64 b.s, .int .i64 b.z, .int .u64 b.zc, .int .u64 b.ct, .int .i64 b.sm, .slice A' b.P.length c', .slice B' b.Q.length d'] 39)
  have HP := Lib.hid (And.intro (And.intro (hP.below hb0) (hQ.below hb0)) (And.intro (hP'.below hb0) (hQ'.below hb0)))
  have HB := Lib.hid hb0
  clear hP hQ hP' hQ' hb0 h hr
  go_enter Tryz.func102, Tryz.ntmps102
  go_wp2_with fail
  generalize ((w.alloc (.cells #[.int .i64 a.k, .int .i64 a.s, .int .i64 a.z, .int .u64 a.zc, .int .u64 a.ct, .int .i64 a.sm, .slice A a.P.length c, .slice B a.Q.length d] 39)).alloc (.cells #[.int .i64 b.k, .int .i64 b.s, .int .i64 b.z, .int .u64 b.zc, .int .u64 b.ct, .int .i64 b.sm, .slice A' b.P.length c', .slice B' b.Q.length d'] 39)) = w0 at *
  refine (sub_two' HH.out A' B' A B c' d' c d w0 HP.out.2.1 HP.out.2.2 HP.out.1.1 HP.out.1.2).mono ?_
  rintro e w1 ⟨A1, B1, c1, d1, rfl, hA, hB, hb1, _, _⟩
  have HB1 := Lib.hid (HB.out.trans (hb1.mono HB.out.size))
  obtain ⟨E, hE⟩ : ∃ E, mSubE x y = E := ⟨_, rfl⟩
  rw [hE] at HR ⊢
  clear hA hB hb1 hE
  generalize mSubO x y = o
  simp only [hvA]
  go_wp2_with fail
  go_ret
  exact ⟨ret_bool HR.out, HB1.out.alloc HB1.out.size _⟩
/-- a slice of two -/
theorem Hl.two {w : World} {g : Nat} {A B A' B' : Option Addr} {c d c' d' : Nat} {a b : HV} (hb : w.heap[g]? = some (.cells #[.int .i64 a.k, .int .i64 a.s, .int .i64 a.z, .int .u64 a.zc, .int .u64 a.ct, .int .i64 a.sm, .slice A a.P.length c, .slice B a.Q.length d, .int .i64 b.k, .int .i64 b.s, .int .i64 b.z, .int .u64 b.zc, .int .u64 b.ct, .int .i64 b.sm, .slice A' b.P.length c', .slice B' b.Q.length d'] 39 (0, 0)))
    (hA : Bk w A a.P) (hB : Bk w B a.Q) (hA' : Bk w A' b.P) (hB' : Bk w B' b.Q) (za : 0 ≤ a.zc ∧ a.zc ≤ 18446744073709551615) (zb : 0 ≤ b.zc ∧ b.zc ≤ 18446744073709551615) : Hl w (some ⟨g, 0, none⟩) [a, b] := by
  refine ⟨by simp, .inr ⟨g, 0, rfl, fun j h hj => ?_⟩⟩
  match j, hj with
  | 0, hj =>
    simp at hj
    subst hj
    exact ⟨A, B, c, d, ⟨(by rw [cell_of_row _ _ _ _ _ _ hb]; rfl), (by rw [cell_of_row _ _ _ _ _ _ hb]; rfl), (by rw [cell_of_row _ _ _ _ _ _ hb]; rfl), (by rw [cell_of_row _ _ _ _ _ _ hb]; rfl), (by rw [cell_of_row _ _ _ _ _ _ hb]; rfl), (by rw [cell_of_row _ _ _ _ _ _ hb]; rfl), (by rw [cell_of_row _ _ _ _ _ _ hb]; rfl), (by rw [cell_of_row _ _ _ _ _ _ hb]; rfl)⟩, hA, hB, za.1, za.2⟩
  | 1, hj =>
    simp at hj
    subst hj
    exact ⟨A', B', c', d', ⟨(by rw [cell_of_row _ _ _ _ _ _ hb]; rfl), (by rw [cell_of_row _ _ _ _ _ _ hb]; rfl), (by rw [cell_of_row _ _ _ _ _ _ hb]; rfl), (by rw [cell_of_row _ _ _ _ _ _ hb]; rfl), (by rw [cell_of_row _ _ _ _ _ _ hb]; rfl), (by rw [cell_of_row _ _ _ _ _ _ hb]; rfl), (by rw [cell_of_row _ _ _ _ _ _ hb]; rfl), (by rw [cell_of_row _ _ _ _ _ _ hb]; rfl)⟩, hA', hB', zb.1, zb.2⟩
end Go.Proofs.YtakomfnajeolcaaGreatDoor
/-! Many histograms, one by one: plain data. -/
namespace Go.Proofs.YtakomfnajeolcaaGreatDoor
open Go.RowKit Go.Sort Go.Maps
set_option linter.unusedVariables false

structure AddIs (a b r : HV) : Prop where
  ok : Ok r
  ct : r.ct = a.ct + b.ct
  sm : r.sm = a.sm + b.sm
  s : r.s = min a.s b.s
theorem Two.add {a b x y : HV} (h : Two a b x y) (he : mAddE x y = 0) : AddIs a b (mAddO x y) := by
  have i := h.is
  have er : mAddO x y = mAddR x y := by unfold mAddO; rw [if_pos he]; rfl
  have h2 := addR_ct i.ox i.oy
  have hz1 := i.ox.zc
  have hz2 := i.oy.zc
  have nP := i.ox.nP.append i.oy.nP
  have nQ := i.ox.nQ.append i.oy.nQ
  unfold mAddE at he
  split at he
  · simp at he
  · split at he
    · rename_i h1 h3
      unfold mkE at he
      split at he
      · simp at he
      · rw [er]
        refine ⟨Ok.of (h := mAddR x y) he (by show 0 ≤ x.zc + y.zc; omega) h3 (tidy_pos nP).nn (tidy_pos nQ).nn, by rw [h2, i.xc, i.yc], by show x.sm + y.sm = _; rw [i.xm, i.ym], i.sx⟩
    · simp at he
structure SubIs (a b r : HV) : Prop where
  ok : Ok r
  ct : r.ct = a.ct - b.ct
  sm : r.sm = a.sm - b.sm
  s : r.s = min a.s b.s
  k : r.k = a.k
theorem Two.sub {a b x y : HV} (h : Two a b x y) (he : mSubE x y = 0) : SubIs a b (mSubO x y) := by
  have i := h.is
  have er : mSubO x y = mSubR x y := by unfold mSubO; rw [if_pos he]
  rw [er]
  unfold mSubE at he
  split at he
  · split at he
    · rename_i h1 h2
      exact ⟨sub_ok i.ox i.oy h1 h2, by show x.ct - y.ct = _; rw [i.xc, i.yc], by show x.sm - y.sm = _; rw [i.xm, i.ym], i.sx, i.xk⟩
    · simp at he
  · simp at he
/-- histograms together, one by one -/
inductive SumR : HV → List HV → HV → Int → Prop
  | done (a : HV) : SumR a [] a 0
  | bad {a b x y : HV} {r : List HV} : Two a b x y → mAddE x y ≠ 0 → SumR a (b :: r) zeroV (mAddE x y)
  | step {a b x y o : HV} {r : List HV} {E : Int} : Two a b x y → mAddE x y = 0 → SumR (mAddO x y) r o E → SumR a (b :: r) o E
theorem SumR.unique {a o o' : HV} {l : List HV} {E E' : Int} (h : SumR a l o E) (k : SumR a l o' E') : o = o' ∧ E = E' := by
  induction h with
  | done a => cases k; exact ⟨rfl, rfl⟩
  | bad t n => cases k with
    | bad t' n' => obtain ⟨rfl, rfl⟩ := t.unique t'; exact ⟨rfl, rfl⟩
    | step t' n' _ => obtain ⟨rfl, rfl⟩ := t.unique t'; exact absurd n' n
  | step t n _ ih => cases k with
    | bad t' n' => obtain ⟨rfl, rfl⟩ := t.unique t'; exact absurd n n'
    | step t' n' k => obtain ⟨rfl, rfl⟩ := t.unique t'; exact ih k
/-- how much one is more than another one; all, if it was reset -/
inductive MoreR : HV → HV → HV → Int → Prop
  | bad {a b x y : HV} : Two a b x y → mSubE x y ≠ 0 → mSubE x y ≠ 21 → MoreR a b zeroV (mSubE x y)
  | all {a b x y : HV} : Two a b x y → mSubE x y = 21 → MoreR a b a 0
  | less {a b x y : HV} : Two a b x y → mSubE x y = 0 → MoreR a b (mSubO x y) 0
theorem MoreR.unique {a b o o' : HV} {E E' : Int} (h : MoreR a b o E) (k : MoreR a b o' E') : o = o' ∧ E = E' := by
  cases h with
  | bad t n n2 => cases k with
    | bad t' _ _ => obtain ⟨rfl, rfl⟩ := t.unique t'; exact ⟨rfl, rfl⟩
    | all t' h => obtain ⟨rfl, rfl⟩ := t.unique t'; exact absurd h n2
    | less t' h => obtain ⟨rfl, rfl⟩ := t.unique t'; exact absurd h n
  | all t h => cases k with
    | bad t' _ n => obtain ⟨rfl, rfl⟩ := t.unique t'; exact absurd h n
    | all t' _ => exact ⟨rfl, rfl⟩
    | less t' h' => obtain ⟨rfl, rfl⟩ := t.unique t'; omega
  | less t h => cases k with
    | bad t' n _ => obtain ⟨rfl, rfl⟩ := t.unique t'; exact absurd h n
    | all t' h' => obtain ⟨rfl, rfl⟩ := t.unique t'; omega
    | less t' _ => obtain ⟨rfl, rfl⟩ := t.unique t'; exact ⟨rfl, rfl⟩
/-- how much counters rose: so far, the one ahead, the others -/
inductive RiseR : HV → HV → List HV → HV → Int → Prop
  | done (a p : HV) : RiseR a p [] a 0
  | bad {a p n m : HV} {r : List HV} {E : Int} : MoreR n p m E → E ≠ 0 → RiseR a p (n :: r) zeroV E
  | over {a p n m x y : HV} {r : List HV} : MoreR n p m 0 → Two a m x y → mAddE x y ≠ 0 → RiseR a p (n :: r) zeroV (mAddE x y)
  | step {a p n m x y o : HV} {r : List HV} {E : Int} : MoreR n p m 0 → Two a m x y → mAddE x y = 0 → RiseR (mAddO x y) n r o E → RiseR a p (n :: r) o E
theorem RiseR.unique {a p o o' : HV} {l : List HV} {E E' : Int} (h : RiseR a p l o E) (k : RiseR a p l o' E') : o = o' ∧ E = E' := by
  induction h with
  | done a p => cases k; exact ⟨rfl, rfl⟩
  | bad m n => cases k with
    | bad m' n' => exact ⟨rfl, (m.unique m').2⟩
    | over m' _ _ => exact absurd (m.unique m').2 n
    | step m' _ _ _ => exact absurd (m.unique m').2 n
  | over m t n => cases k with
    | bad m' n' => exact absurd (m'.unique m).2 n'
    | over m' t' n' => obtain ⟨rfl, _⟩ := m.unique m'; obtain ⟨rfl, rfl⟩ := t.unique t'; exact ⟨rfl, rfl⟩
    | step m' t' n' _ => obtain ⟨rfl, _⟩ := m.unique m'; obtain ⟨rfl, rfl⟩ := t.unique t'; exact absurd n' n
  | step m t n _ ih => cases k with
    | bad m' n' => exact absurd (m'.unique m).2 n'
    | over m' t' n' => obtain ⟨rfl, _⟩ := m.unique m'; obtain ⟨rfl, rfl⟩ := t.unique t'; exact absurd n n'
    | step m' t' n' k => obtain ⟨rfl, _⟩ := m.unique m'; obtain ⟨rfl, rfl⟩ := t.unique t'; exact ih k
theorem MoreR.ok {n p m : HV} (h : MoreR n p m 0) : Ok m ∧ (m.k = n.k) := by
  generalize hE : (0 : Int) = E at h
  cases h with
  | bad t n1 n2 => exact absurd hE.symm n1
  | all t h => exact ⟨t.oa, rfl⟩
  | less t h => exact ⟨(t.sub h).ok, (t.sub h).k⟩
theorem Bk.old {w : World} {A : Option Addr} {l : List (Int × Int)} (h : Bk w A l) {g : Nat} (hg : w.heap.size ≤ g) : l.length = 0 ∨ ∀ a, A = some a → a.block ≠ g := by
  by_cases h0 : l.length = 0
  · exact .inl h0
  · obtain ⟨b, off, e, hc⟩ := h.some_ (by omega)
    refine .inr fun a ha => ?_
    obtain ⟨p, hp⟩ := getElem?_lt (l := l) (k := 0) (by omega)
    have := block_lt_of_cell (hc 0 p hp).1
    rw [e] at ha
    injection ha with ha
    rw [← ha]
    simp only at this ⊢
    omega
end Go.Proofs.YtakomfnajeolcaaGreatDoor
