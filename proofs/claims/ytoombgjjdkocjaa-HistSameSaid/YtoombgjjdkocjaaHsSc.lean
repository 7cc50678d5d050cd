/- The law HistSame: its walk, both light. -/
import Derived.Test.YtoombgjjdkocjaaHsSb
import Derived.Deep.RegionHeld3
namespace Go.Proofs.Ytoombgjjdkocjaa
open Go.RowKit Go.Sort Go.Maps
set_option linter.unusedVariables false
theorem box2c {w0 : World} {g : Nat} {t : TypeId} {v0 v1 : Value} (h : w0.heap[g]? = some (.cells #[v0, v1] t (0, 0))) (W : World) (hb : RowKit.Below w0.heap.size w0 W) : W.cell? ⟨g, 0, none⟩ = some v0 ∧ W.cell? ⟨g, 1, none⟩ = some v1 :=
  box2 ((hb.block g (Array.getElem?_eq_some_iff.1 h).1).trans h)
theorem right_i64 {s : Int} (h : rightB s = true) : I64 s := by
  unfold rightB at h
  simp at h
  exact ⟨by omega, by omega⟩
theorem Mp.late {w wr w' : World} {b n : Nat} {f : F3} (h : Mp w wr b n f) (hb : RowKit.Below wr.heap.size wr w') : Mp w w' b n f := by
  obtain ⟨⟨D, h1, h2⟩, h3, h4⟩ := h
  exact ⟨⟨D, h1.kept (below_grownBy hb) (by simp), h2⟩, h3, h4.trans (hb.mono h4.size)⟩
def SmCels (wS : World) (f g : F3) (s7 s8 : Value) (wx : World) : Prop := ∃ b1 n1 b2 n2, s7 = .map (some b1) ∧ s8 = .map (some b2) ∧ Mp wS wx b1 n1 f ∧ Mp wS wx b2 n2 g
theorem check_empty {k s z zc ct : Int} {P Q : List (Int × Int)} (h : checkF k s z zc ct P Q = 0) : checkF k s (-524288) 0 0 [] [] = 0 := by
  obtain ⟨h1, _⟩ := check_zero h
  obtain ⟨a, b, _⟩ := kindE_zero h1
  have hk : kindE k s (-524288) = 0 := by
    unfold kindE
    rw [if_neg (by omega), if_neg (by rw [b]; decide), if_neg (by simp)]
  unfold checkF
  rw [if_neg (by rw [hk]; simp)]
  simp [sideE, walkE, cnt]
def SmRng (w0 : World) (b r n : Nat) (D : DataW Unit) (K : List K3) (f g : F3) (E : Bool) (s9 : Value) (wr : World) : Prop :=
  ∃ (left : Lit → Bool) (cnt : Nat) (h : Bool), s9 = .bool h ∧ wr.ranges Try.prog 32 (plainElem Try.prog 22) b r n D left cnt ∧ (∀ kl, left kl = true → has D kl = true) ∧
    (h = true ↔ E = true ∧ ∀ q ∈ K, left (kL q.1 q.2.1 q.2.2) = false → g q.1 q.2.1 q.2.2 = f q.1 q.2.1 q.2.2) ∧ RowKit.Below w0.heap.size w0 wr
def SmCut (w2 : World) (s : Value) (wx : World) : Prop := s = .bool false ∧ RowKit.Below w2.heap.size w2 wx
set_option maxHeartbeats 8000000 in
set_option maxRecDepth 100000 in
theorem same_main (k s z zc ct sm k' s' z' zc' ct' sm' : Int) (A B A' B' : Option Addr) (c d c' d' : Nat) (P Q P' Q' : List (Int × Int)) (w : World) (z0 : 0 ≤ zc) (z1 : zc ≤ 18446744073709551615) (z0' : 0 ≤ zc') (z1' : zc' ≤ 18446744073709551615) (hP : Bk w A P) (hQ : Bk w B Q) (hP' : Bk w A' P') (hQ' : Bk w B' Q') (l1 : P.length ≤ 600) (l2 : Q.length ≤ 600) (l3 : P'.length ≤ 600) (l4 : Q'.length ≤ 600) :
    Calls Try.prog 4 #[.agg #[.int .i64 k, .int .i64 s, .int .i64 z, .int .u64 zc, .int .u64 ct, .int .i64 sm, .slice A P.length c, .slice B Q.length d], .agg #[.int .i64 k', .int .i64 s', .int .i64 z', .int .u64 zc', .int .u64 ct', .int .i64 sm', .slice A' P'.length c', .slice B' Q'.length d']] w fun e w' => e = .returned (.bool true) ∧ Below w.heap.size w w' := by
  have hb1 : Below w.heap.size w (w.alloc (.cells #[.int .i64 k, .int .i64 s, .int .i64 z, .int .u64 zc, .int .u64 ct, .int .i64 sm, .slice A P.length c, .slice B Q.length d] 25)) := (Below.refl _ _).alloc (Nat.le_refl _) _
  have hx := heap_alloc_new w (.cells #[.int .i64 k, .int .i64 s, .int .i64 z, .int .u64 zc, .int .u64 ct, .int .i64 sm, .slice A P.length c, .slice B Q.length d] 25)
  have hy := heap_alloc_new (w.alloc (.cells #[.int .i64 k, .int .i64 s, .int .i64 z, .int .u64 zc, .int .u64 ct, .int .i64 sm, .slice A P.length c, .slice B Q.length d] 25)) (.cells #[.int .i64 k', .int .i64 s', .int .i64 z', .int .u64 zc', .int .u64 ct', .int .i64 sm', .slice A' P'.length c', .slice B' Q'.length d'] 25)
  have e1 : (w.alloc (.cells #[.int .i64 k, .int .i64 s, .int .i64 z, .int .u64 zc, .int .u64 ct, .int .i64 sm, .slice A P.length c, .slice B Q.length d] 25)).heap.size = w.heap.size + 1 := by simp
  rw [e1] at hy
  clear e1
  obtain ⟨w0, hw0⟩ : ∃ W, (w.alloc (.cells #[.int .i64 k, .int .i64 s, .int .i64 z, .int .u64 zc, .int .u64 ct, .int .i64 sm, .slice A P.length c, .slice B Q.length d] 25)).alloc (.cells #[.int .i64 k', .int .i64 s', .int .i64 z', .int .u64 zc', .int .u64 ct', .int .i64 sm', .slice A' P'.length c', .slice B' Q'.length d'] 25) = W := ⟨_, rfl⟩
  have hb0 : Below w.heap.size w w0 := by rw [← hw0]; exact hb1.alloc (by simp) _
  have hx0 : w0.heap[w.heap.size]? = some (.cells #[.int .i64 k, .int .i64 s, .int .i64 z, .int .u64 zc, .int .u64 ct, .int .i64 sm, .slice A P.length c, .slice B Q.length d] 25 (0, 0)) := by
    rw [← hw0]; exact (Below.heap_alloc _ _ _ (by simp)).trans hx
  rw [hw0] at hy
  have HBX := Lib.hid (box8b hx0)
  have HBY := Lib.hid (box8b hy)
  have HP := Lib.hid (hP.below hb0)
  have HQ := Lib.hid (hQ.below hb0)
  have HP' := Lib.hid (hP'.below hb0)
  have HQ' := Lib.hid (hQ'.below hb0)
  have HB0 := Lib.hid hb0
  have HW0 := Lib.hid hw0
  have HL := Lib.hid (show true = (decide (P.length ≤ 600) && decide (Q.length ≤ 600)) from by rw [decide_eq_true l1, decide_eq_true l2]; rfl)
  have HL' := Lib.hid (show true = (decide (P'.length ≤ 600) && decide (Q'.length ≤ 600)) from by rw [decide_eq_true l3, decide_eq_true l4]; rfl)
  obtain ⟨v, hv⟩ : ∃ v, sameF k s z zc ct sm k' s' z' zc' ct' sm' P Q P' Q' = v := ⟨_, rfl⟩
  have HV := Lib.hid hv
  have HSS := Lib.hid (show sameF k s z zc ct sm k s z zc ct sm P Q P Q = true from by rw [sameF_yes ⟨rfl, rfl, rfl, rfl, rfl, rfl⟩]; simp [eqL])
  clear hP hQ hP' hQ' hb0 hb1 hx hy hx0 hv
  go_enter Try.func4, Try.ntmps4
  clear hw0
  go_upto_region 1 with fail
  try rw [HW0.out]
  obtain ⟨x0, x1, x2, x3, x4, x5, x6, x7⟩ := HBX.out w0 (Below.refl _ _)
  obtain ⟨y0, y1, y2, y3, y4, y5, y6, y7⟩ := HBY.out w0 (Below.refl _ _)
  go_wp2_with fail
  refine (light_any _ _ _ _ _ _ _ _ _ _ _ _ _ true HL.out).mono ?_
  rintro e w1 ⟨rfl, hb1⟩
  have HB1 := Lib.hid hb1
  clear hb1 x0 x1 x2 x3 x4 x5 x6 x7 y0 y1 y2 y3 y4 y5 y6 y7
  obtain ⟨y0, y1, y2, y3, y4, y5, y6, y7⟩ := HBY.out w1 HB1.out
  go_wp2_with fail
  refine (light_any _ _ _ _ _ _ _ _ _ _ _ _ _ true HL'.out).mono ?_
  rintro e w2 ⟨rfl, hb2⟩
  have HB2 := Lib.hid (HB1.out.trans (hb2.mono HB1.out.size))
  clear hb2 y0 y1 y2 y3 y4 y5 y6 y7
  obtain ⟨x0, x1, x2, x3, x4, x5, x6, x7⟩ := HBX.out w2 HB2.out
  obtain ⟨y0, y1, y2, y3, y4, y5, y6, y7⟩ := HBY.out w2 HB2.out
  have hvv : (v != v) = false := by simp
  have HC1 := Lib.hid (fun W (hW : Below w2.heap.size w2 W) => isameN k s z zc ct sm k' s' z' zc' ct' sm' A B A' B' c d c' d' P Q P' Q' W (HP.out.below (HB2.out.trans (hW.mono HB2.out.size))) (HQ.out.below (HB2.out.trans (hW.mono HB2.out.size))) (HP'.out.below (HB2.out.trans (hW.mono HB2.out.size))) (HQ'.out.below (HB2.out.trans (hW.mono HB2.out.size))) v HV.out)
  have HC2 := Lib.hid (fun W (hW : Below w2.heap.size w2 W) => rsameN k s z zc ct sm k' s' z' zc' ct' sm' A B A' B' c d c' d' P Q P' Q' W (HP.out.below (HB2.out.trans (hW.mono HB2.out.size))) (HQ.out.below (HB2.out.trans (hW.mono HB2.out.size))) (HP'.out.below (HB2.out.trans (hW.mono HB2.out.size))) (HQ'.out.below (HB2.out.trans (hW.mono HB2.out.size))) v HV.out)
  have HC3 := Lib.hid (fun W (hW : Below w2.heap.size w2 W) => isameN k s z zc ct sm k s z zc ct sm A B A B c d c d P Q P Q W (HP.out.below (HB2.out.trans (hW.mono HB2.out.size))) (HQ.out.below (HB2.out.trans (hW.mono HB2.out.size))) (HP.out.below (HB2.out.trans (hW.mono HB2.out.size))) (HQ.out.below (HB2.out.trans (hW.mono HB2.out.size))) true HSS.out)
  have HKK := Lib.hid (fun (w0' W W' : World) (h0 : Below w0.heap.size w0 w0') (hW : Below w0'.heap.size w0' W) (hb : Below W.heap.size W W') => show Below w0'.heap.size w0' W' ∧ (W'.cell? ⟨w.heap.size, 0, none⟩ = some (.int .i64 k) ∧ W'.cell? ⟨w.heap.size, 1, none⟩ = some (.int .i64 s) ∧ W'.cell? ⟨w.heap.size, 2, none⟩ = some (.int .i64 z) ∧ W'.cell? ⟨w.heap.size, 3, none⟩ = some (.int .u64 zc) ∧ W'.cell? ⟨w.heap.size, 4, none⟩ = some (.int .u64 ct) ∧ W'.cell? ⟨w.heap.size, 5, none⟩ = some (.int .i64 sm) ∧ W'.cell? ⟨w.heap.size, 6, none⟩ = some (.slice A P.length c) ∧ W'.cell? ⟨w.heap.size, 7, none⟩ = some (.slice B Q.length d)) ∧ (W'.cell? ⟨w.heap.size + 1, 0, none⟩ = some (.int .i64 k') ∧ W'.cell? ⟨w.heap.size + 1, 1, none⟩ = some (.int .i64 s') ∧ W'.cell? ⟨w.heap.size + 1, 2, none⟩ = some (.int .i64 z') ∧ W'.cell? ⟨w.heap.size + 1, 3, none⟩ = some (.int .u64 zc') ∧ W'.cell? ⟨w.heap.size + 1, 4, none⟩ = some (.int .u64 ct') ∧ W'.cell? ⟨w.heap.size + 1, 5, none⟩ = some (.int .i64 sm') ∧ W'.cell? ⟨w.heap.size + 1, 6, none⟩ = some (.slice A' P'.length c') ∧ W'.cell? ⟨w.heap.size + 1, 7, none⟩ = some (.slice B' Q'.length d')) from
    have h := hW.trans (hb.mono hW.size)
    ⟨h, HBX.out W' (h0.trans (h.mono h0.size)), HBY.out W' (h0.trans (h.mono h0.size))⟩)
  go_upto_region 3 with fail
  go_cut [36] from 37 (fun s36 wx => SmCut w2 s36 wx)
  case first =>
    go_region_held3 (fun W' => Below w2.heap.size w2 W' ∧ (W'.cell? ⟨w.heap.size, 0, none⟩ = some (.int .i64 k) ∧ W'.cell? ⟨w.heap.size, 1, none⟩ = some (.int .i64 s) ∧ W'.cell? ⟨w.heap.size, 2, none⟩ = some (.int .i64 z) ∧ W'.cell? ⟨w.heap.size, 3, none⟩ = some (.int .u64 zc) ∧ W'.cell? ⟨w.heap.size, 4, none⟩ = some (.int .u64 ct) ∧ W'.cell? ⟨w.heap.size, 5, none⟩ = some (.int .i64 sm) ∧ W'.cell? ⟨w.heap.size, 6, none⟩ = some (.slice A P.length c) ∧ W'.cell? ⟨w.heap.size, 7, none⟩ = some (.slice B Q.length d)) ∧ (W'.cell? ⟨w.heap.size + 1, 0, none⟩ = some (.int .i64 k') ∧ W'.cell? ⟨w.heap.size + 1, 1, none⟩ = some (.int .i64 s') ∧ W'.cell? ⟨w.heap.size + 1, 2, none⟩ = some (.int .i64 z') ∧ W'.cell? ⟨w.heap.size + 1, 3, none⟩ = some (.int .u64 zc') ∧ W'.cell? ⟨w.heap.size + 1, 4, none⟩ = some (.int .u64 ct') ∧ W'.cell? ⟨w.heap.size + 1, 5, none⟩ = some (.int .i64 sm') ∧ W'.cell? ⟨w.heap.size + 1, 6, none⟩ = some (.slice A' P'.length c') ∧ W'.cell? ⟨w.heap.size + 1, 7, none⟩ = some (.slice B' Q'.length d')))
      (first | assumption | exact HKK.out w2 w2 _ HB2.out (Below.refl _ _) ((Below.refl _ _).drew) | exact HKK.out w2 _ _ HB2.out (And.left (by assumption)) (by assumption))
      (first
        | (go_at_call 12; first
          | ((with_reducible refine (HC1.out _ (And.left (by assumption))).mono ?_); rintro e w9 ⟨rfl, hb9⟩)
          | ((with_reducible refine (HC3.out _ (And.left (by assumption))).mono ?_); rintro e w9 ⟨rfl, hb9⟩))
        | (go_at_call 13; ((with_reducible refine (HC2.out _ (And.left (by assumption))).mono ?_); rintro e w9 ⟨rfl, hb9⟩)))
    all_goals (go_wp2_with fail)
    all_goals go_meet
    all_goals exact ⟨rfl, And.left (by assumption)⟩
  case rest =>
    obtain ⟨rfl, hb3⟩ := hcut
    obtain ⟨w3, hw3, hb3⟩ : ∃ W, W = _ ∧ Below w2.heap.size w2 W := ⟨_, rfl, hb3⟩
    subst hw3
    have HB3 := Lib.hid (HB2.out.trans (hb3.mono HB2.out.size))
    clear hb3 HC1 HC2 HC3 x0 x1 x2 x3 x4 x5 x6 x7 y0 y1 y2 y3 y4 y5 y6 y7 hvv
    obtain ⟨x0, x1, x2, x3, x4, x5, x6, x7⟩ := HBX.out _ HB3.out
    go_wp2_with fail
    refine (hclone_any _ _ _ _ _ _ _ _ _ _ _ _ _ (HP.out.below HB3.out) (HQ.out.below HB3.out) (by omega) (by omega)).mono ?_
    rintro e w4 ⟨A1, B1, c1, d1, rfl, hT⟩
    have HT := Lib.hid hT
    clear hT x0 x1 x2 x3 x4 x5 x6 x7
    go_upto_if 42 with fail
    obtain ⟨gC, hgC⟩ : ∃ g, w4.heap.size = g := ⟨_, rfl⟩
    obtain ⟨w5, hw5⟩ : ∃ W, w4.alloc (.cells #[.int .i64 k, .int .i64 s, .int .i64 z, .int .u64 zc, .int .u64 ct, .int .i64 sm, .slice A1 P.length c1, .slice B1 Q.length d1] 25) = W := ⟨_, rfl⟩
    have HB5 := Lib.hid (show Below w3.heap.size w3 w5 by rw [← hw5]; exact HT.out.2.2.2.alloc HT.out.2.2.2.size _)
    have hbc : w5.heap[gC]? = some (.cells #[.int .i64 k, .int .i64 s, .int .i64 z, .int .u64 zc, .int .u64 ct, .int .i64 sm, .slice A1 P.length c1, .slice B1 Q.length d1] 25 (0, 0)) := by rw [← hw5, ← hgC]; exact heap_alloc_new w4 _
    have HT5 := Lib.hid (show w5.ownsRow w3.heap.size 35 2 (.slice A1 P.length c1) P.length (cellsL P) ∧ w5.ownsRow w3.heap.size 35 2 (.slice B1 Q.length d1) Q.length (cellsL Q) ∧ Apart (.slice A1 P.length c1) (.slice B1 Q.length d1) by rw [← hw5]; exact ⟨HT.out.1.alloc _, HT.out.2.1.alloc _, HT.out.2.2.1⟩)
    have HAL := Lib.hid (show (∀ g, (Value.slice A1 P.length c1).ownBlock = some g → g < gC) from fun g hg => by rw [← hgC]; exact (HT.out.1.lt g hg).2)
    rw [hw5, hgC]
    have HBC := Lib.hid hbc
    clear hw5 hgC hbc
    go_cut [6, 42] from 43 (fun s6 s42 wx => Below w3.heap.size w3 wx)
    case first =>
      by_cases hz : P.length = 0
      · have hz1 : decide ((0 : Int) < (P.length : Int)) = false := by simp; exact List.eq_nil_of_length_eq_zero hz
        have hz2 : decide (0 < P.length) = false := by simp; exact List.eq_nil_of_length_eq_zero hz
        have hPn : P = [] := List.eq_nil_of_length_eq_zero hz
        subst hPn
        clear hz
        go_wp2_with fail
        go_meet
        exact HB5.out
      · have hz1 : (0 : Int) < (P.length : Int) := by omega
        have hz2 : 0 < P.length := by omega
        obtain ⟨p0, hp0⟩ := getElem?_lt (l := P) (k := 0) (by omega)
        have hb05 := HB3.out.trans (HB5.out.mono HB3.out.size)
        obtain ⟨ba, oa, rfl, hca⟩ := (HP.out.below hb05).some_ (by omega)
        obtain ⟨a0, a1⟩ := hca 0 p0 hp0
        simp only [Nat.zero_mul, Nat.add_zero] at a0 a1
        obtain ⟨g1, c9, hv, _, _⟩ := HT5.out.1.form (by omega)
        injection hv with e1 e2 e3
        subst e1
        have HT6 := Lib.hid HT5.out
        have hcp : (cellsL P)[1]? = some (.int .u64 p0.2) := (cellsL_at P 0 p0 hp0).2
        have f1 := HT5.out.1.cellAt 1 (by omega)
        rw [hcp] at f1
        have f1f := HT5.out.1.frozenAt 1
        obtain ⟨x0, x1, x2, x3, x4, x5, x6, x7⟩ := HBX.out w5 hb05
        obtain ⟨q0, q1, q2, q3, q4, q5, q6, q7, _⟩ := box8 HBC.out
        have hwb := HP.out.2.1 p0 (mem_of_at hp0)
        obtain ⟨V, hV⟩ : ∃ V, IntKind.u64.wrap (p0.2 + 1) = V := ⟨_, rfl⟩
        have hV2 : V ≠ p0.2 ∧ 0 ≤ V ∧ V ≤ 18446744073709551615 := by
          rw [← hV, IntKind.wrap_u64]
          obtain ⟨_, _, h3, h4⟩ := hwb
          omega
        have hlt5 : ba < w5.heap.size := block_lt_of_cell a0
        have hg15 : g1 < w5.heap.size := block_lt_of_cell f1
        have hgC5 : gC < w5.heap.size := block_lt_of_cell q0
        have HPP := Lib.hid (And.intro hp0 (And.intro hV2 hwb))
        have hwlt : w.heap.size < w5.heap.size := block_lt_of_cell x0
        obtain ⟨pi, pc⟩ := p0
        simp only at a0 a1 f1 hV
        clear hz hca hp0 e2 e3 hcp hV2 hwb hb05
        go_wp2_with fail
        obtain ⟨gW, hgW⟩ : ∃ g, w5.heap.size = g := ⟨_, rfl⟩
        have hg3 : w3.heap.size ≤ g1 := (HT6.out.1.lt g1 rfl).1
        have hgC1 : g1 < gC := HAL.out g1 rfl
        have h57 : ∃ W, (w5.setCell ⟨g1, 1, none⟩ (.int .u64 V)).alloc (.cells #[.int .i64 pi, .int .u64 pc] 35) = W := ⟨_, rfl⟩
        obtain ⟨w7, hw7⟩ := h57
        have hb7 : Below w3.heap.size w3 w7 := by rw [← hw7]; exact (HB5.out.setCell hg3 _).alloc (by have := HB5.out.size; simp; omega) _
        have hcx : w7.heap[gC]? = some (.cells #[.int .i64 k, .int .i64 s, .int .i64 z, .int .u64 zc, .int .u64 ct, .int .i64 sm, .slice (some ⟨g1, 0, none⟩) P.length c1, .slice B1 Q.length d1] 25 (0, 0)) := by
          rw [← hw7, Below.heap_alloc _ _ _ (by simp; omega), Below.heap_setCell _ _ _ _ (by simp; omega)]
          exact HBC.out
        have hwx : w7.heap[gW]? = some (.cells #[.int .i64 pi, .int .u64 pc] 35 (0, 0)) := by
          rw [← hw7, ← hgW]
          have := heap_alloc_new (w5.setCell ⟨g1, 1, none⟩ (.int .u64 V)) (.cells #[.int .i64 pi, .int .u64 pc] 35)
          simpa using this
        have hPt : P = (pi, pc) :: P.tail := by
          have := HPP.out.1
          cases hP : P with
          | nil => rw [hP] at this; simp at this
          | cons q r => rw [hP] at this; simp at this; rw [this]; rfl
        obtain ⟨P1, hP1⟩ : ∃ P1, (pi, V) :: P.tail = P1 := ⟨_, rfl⟩
        have hP1l : P1.length = P.length := by rw [← hP1, hPt]; simp
        have hset : (cellsL P).set 1 (.int .u64 V) = cellsL P1 := by rw [← hP1, hPt]; rfl
        have hown : w7.ownsRow w3.heap.size 35 2 (.slice (some ⟨g1, 0, none⟩) P.length c1) P.length (cellsL P1) := by
          rw [← hw7, ← hset]
          exact (HT6.out.1.stored 1 (.int .u64 V)).1.alloc _
        have hownQ : w7.ownsRow w3.heap.size 35 2 (.slice B1 Q.length d1) Q.length (cellsL Q) := by
          rw [← hw7]
          refine World.ownsRow.alloc (HT6.out.2.1.kept (HT6.out.1.stored 1 (.int .u64 V)).2 ?_) _
          rcases ho : (Value.slice B1 Q.length d1).ownBlock with _ | g
          · exact .inl rfl
          · exact .inr (fun e => HT6.out.2.2 g1 rfl (by rw [ho, e]))
        have hbkP : Bk w7 (some ⟨g1, 0, none⟩) P1 := own_bk hown (fun p hp => by
          rw [← hP1] at hp
          rcases List.mem_cons.1 hp with rfl | hp
          · obtain ⟨w1, w2, _, _⟩ := HPP.out.2.2
            exact ⟨w1, w2, HPP.out.2.1.2.1, HPP.out.2.1.2.2⟩
          · exact HP.out.2.1 p (by rw [hPt]; exact List.mem_cons_of_mem _ hp)) (by omega)
        have hbkQ : Bk w7 B1 Q := own_bk hownQ HQ.out.2.1 (by omega)
        have hsf : sameF k s z zc ct sm k s z zc ct sm P Q P1 Q = false := by
          rw [sameF_yes ⟨rfl, rfl, rfl, rfl, rfl, rfl⟩, eqL_at (k := 0) (p := (pi, pc)) (q := (pi, V)) HPP.out.1 (by rw [← hP1]; rfl) (fun e => HPP.out.2.1.1 (by simpa using e.symm))]
          rfl
        have hb37 := HB3.out.trans (hb7.mono HB3.out.size)
        have hcs7 := (HP.out.below hb37).some_ (by omega)
        have HA7 := Lib.hid (show ∀ W, Below w7.heap.size w7 W → W.cell? ⟨ba, oa, none⟩ = some (.int .i64 pi) ∧ W.cell? ⟨ba, oa + 1, none⟩ = some (.int .u64 pc) from fun W hW => by
          obtain ⟨b', o', e, hc⟩ := (HP.out.below (hb37.trans (hW.mono hb37.size))).some_ (by omega)
          obtain ⟨rfl, rfl⟩ : ba = b' ∧ oa = o' := by simpa using e
          obtain ⟨c1', c2'⟩ := hc 0 _ HPP.out.1
          exact ⟨by simpa using c1', by simpa using c2'⟩)
        have HC4 := Lib.hid (fun W (hW : Below w7.heap.size w7 W) => show Calls Try.prog 12 #[.agg #[.int .i64 k, .int .i64 s, .int .i64 z, .int .u64 zc, .int .u64 ct, .int .i64 sm, .slice (some ⟨ba, oa, none⟩) P.length c, .slice B Q.length d], .agg #[.int .i64 k, .int .i64 s, .int .i64 z, .int .u64 zc, .int .u64 ct, .int .i64 sm, .slice (some ⟨g1, 0, none⟩) P.length c1, .slice B1 Q.length d1]] W (fun e w' => e = .returned (.bool false) ∧ Below W.heap.size W w') from by
          have := isameN k s z zc ct sm k s z zc ct sm (some ⟨ba, oa, none⟩) B (some ⟨g1, 0, none⟩) B1 c d c1 d1 P Q P1 Q W (HP.out.below (hb37.trans (hW.mono hb37.size))) (HQ.out.below (hb37.trans (hW.mono hb37.size))) (hbkP.below hW) (hbkQ.below hW) false hsf
          rw [hP1l] at this
          exact this)
        have HK7 := Lib.hid (fun (W W' : World) (hW : Below w7.heap.size w7 W) (hb : Below W.heap.size W W') => show Below w7.heap.size w7 W' ∧ (W'.cell? ⟨w.heap.size, 0, none⟩ = some (.int .i64 k) ∧ W'.cell? ⟨w.heap.size, 1, none⟩ = some (.int .i64 s) ∧ W'.cell? ⟨w.heap.size, 2, none⟩ = some (.int .i64 z) ∧ W'.cell? ⟨w.heap.size, 3, none⟩ = some (.int .u64 zc) ∧ W'.cell? ⟨w.heap.size, 4, none⟩ = some (.int .u64 ct) ∧ W'.cell? ⟨w.heap.size, 5, none⟩ = some (.int .i64 sm) ∧ W'.cell? ⟨w.heap.size, 6, none⟩ = some (.slice (some ⟨ba, oa, none⟩) P.length c) ∧ W'.cell? ⟨w.heap.size, 7, none⟩ = some (.slice B Q.length d)) ∧ (W'.cell? ⟨gC, 0, none⟩ = some (.int .i64 k) ∧ W'.cell? ⟨gC, 1, none⟩ = some (.int .i64 s) ∧ W'.cell? ⟨gC, 2, none⟩ = some (.int .i64 z) ∧ W'.cell? ⟨gC, 3, none⟩ = some (.int .u64 zc) ∧ W'.cell? ⟨gC, 4, none⟩ = some (.int .u64 ct) ∧ W'.cell? ⟨gC, 5, none⟩ = some (.int .i64 sm) ∧ W'.cell? ⟨gC, 6, none⟩ = some (.slice (some ⟨g1, 0, none⟩) P.length c1) ∧ W'.cell? ⟨gC, 7, none⟩ = some (.slice B1 Q.length d1)) ∧ (W'.cell? ⟨gW, 0, none⟩ = some (.int .i64 pi) ∧ W'.cell? ⟨gW, 1, none⟩ = some (.int .u64 pc)) ∧ (W'.cell? ⟨ba, oa, none⟩ = some (.int .i64 pi) ∧ W'.cell? ⟨ba, oa + 1, none⟩ = some (.int .u64 pc)) from
          have h := hW.trans (hb.mono hW.size)
          ⟨h, HBX.out W' (hb37.trans (h.mono hb37.size)), box8b hcx W' h, box2c hwx W' h, HA7.out W' h⟩)
        obtain ⟨_, x0, x1, x2⟩ := HK7.out w7 w7 (Below.refl _ _) (Below.refl _ _)
        have hne := neqB pi pc pi pc
        simp only [beq_self_eq_true, Bool.and_self, Bool.not_true] at hne
        have hgd := guardB
        have HB7 := Lib.hid hb7
        rw [hw7, hgW]
        clear q0 q1 q2 q3 q4 q5 q6 q7 a0 a1 f1 f1f hV hlt5 hg15 hwlt hgC5 hgW hg3 hgC1 hw7 hb7 hcx hwx hPt hP1 hP1l hset hown hownQ hbkP hbkQ hsf hb37 hcs7 x3 x4 x5 x6 x7 hz1 hz2
        go_cut [65] from 66 (fun s65 wx => SmCut w7 s65 wx)
        case first =>
          go_region_held3 (fun W' => Below w7.heap.size w7 W' ∧ (W'.cell? ⟨w.heap.size, 0, none⟩ = some (.int .i64 k) ∧ W'.cell? ⟨w.heap.size, 1, none⟩ = some (.int .i64 s) ∧ W'.cell? ⟨w.heap.size, 2, none⟩ = some (.int .i64 z) ∧ W'.cell? ⟨w.heap.size, 3, none⟩ = some (.int .u64 zc) ∧ W'.cell? ⟨w.heap.size, 4, none⟩ = some (.int .u64 ct) ∧ W'.cell? ⟨w.heap.size, 5, none⟩ = some (.int .i64 sm) ∧ W'.cell? ⟨w.heap.size, 6, none⟩ = some (.slice (some ⟨ba, oa, none⟩) P.length c) ∧ W'.cell? ⟨w.heap.size, 7, none⟩ = some (.slice B Q.length d)) ∧ (W'.cell? ⟨gC, 0, none⟩ = some (.int .i64 k) ∧ W'.cell? ⟨gC, 1, none⟩ = some (.int .i64 s) ∧ W'.cell? ⟨gC, 2, none⟩ = some (.int .i64 z) ∧ W'.cell? ⟨gC, 3, none⟩ = some (.int .u64 zc) ∧ W'.cell? ⟨gC, 4, none⟩ = some (.int .u64 ct) ∧ W'.cell? ⟨gC, 5, none⟩ = some (.int .i64 sm) ∧ W'.cell? ⟨gC, 6, none⟩ = some (.slice (some ⟨g1, 0, none⟩) P.length c1) ∧ W'.cell? ⟨gC, 7, none⟩ = some (.slice B1 Q.length d1)) ∧ (W'.cell? ⟨gW, 0, none⟩ = some (.int .i64 pi) ∧ W'.cell? ⟨gW, 1, none⟩ = some (.int .u64 pc)) ∧ (W'.cell? ⟨ba, oa, none⟩ = some (.int .i64 pi) ∧ W'.cell? ⟨ba, oa + 1, none⟩ = some (.int .u64 pc)))
            (first | assumption | exact HK7.out w7 _ (Below.refl _ _) ((Below.refl _ _).drew) | exact HK7.out _ _ (And.left (by assumption)) (by assumption))
            (first
              | (go_at_call 12; ((with_reducible refine (HC4.out _ (And.left (by assumption))).mono ?_); rintro e w9 ⟨rfl, hb9⟩)))
          all_goals (go_wp2_with fail)
          all_goals go_meet
          all_goals exact ⟨rfl, And.left (by assumption)⟩
        case rest =>
          obtain ⟨rfl, hb9⟩ := hcut
          have HB9 := Lib.hid (HB7.out.trans (hb9.mono HB7.out.size))
          clear hb9
          go_wp2_with fail
          go_meet
          exact HB9.out
    case rest =>
      obtain ⟨wR, hwR, hbR⟩ : ∃ W, W = _ ∧ Below w3.heap.size w3 W := ⟨_, rfl, hcut⟩
      subst hwR
      have HR := Lib.hid (HB3.out.trans (hbR.mono HB3.out.size))
      clear hbR hcut HT5 HAL HBC HB5 HT
      obtain ⟨x0, x1, x2, x3, x4, x5, x6, x7⟩ := HBX.out _ HR.out
      obtain ⟨E1, hE1⟩ : ∃ E, checkF k s z zc ct P Q = E := ⟨_, rfl⟩
      obtain ⟨E2, hE2⟩ : ∃ E, checkF k' s' z' zc' ct' P' Q' = E := ⟨_, rfl⟩
      by_cases hck : E1 = 0
      case neg =>
        have hn1 : (E1 != 0) = true := by simpa using hck
        clear hck
        go_wp2_with fail
        refine (refcheckN _ _ _ _ _ _ _ _ _ _ _ _ _ z0 z1 (HP.out.below HR.out) (HQ.out.below HR.out) _ hE1).mono ?_
        rintro e w8 ⟨rfl, hb8⟩
        have HB8 := Lib.hid (HB0.out.trans ((HR.out.trans (hb8.mono HR.out.size)).mono HB0.out.size))
        clear hb8 x0 x1 x2 x3 x4 x5 x6 x7 hE1 hE2
        go_wp2_with fail
        refine (awake05 _).mono ?_
        rintro e w9 ⟨rfl, hb9⟩
        have HB9 := Lib.hid (HB8.out.trans (hb9.mono HB8.out.size))
        clear hb9
        go_wp2_with fail
        go_ret
        exact ⟨rfl, HB9.out⟩
      have hn1 : (E1 != 0) = false := by simp [hck]
      have HE1 := Lib.hid (hE1.trans hck)
      go_wp2_with fail
      refine (refcheckN _ _ _ _ _ _ _ _ _ _ _ _ _ z0 z1 (HP.out.below HR.out) (HQ.out.below HR.out) _ hE1).mono ?_
      rintro e w8 ⟨rfl, hb8⟩
      have HB8 := Lib.hid (HR.out.trans (hb8.mono HR.out.size))
      clear hb8 x0 x1 x2 x3 x4 x5 x6 x7 hE1 hck
      obtain ⟨y0, y1, y2, y3, y4, y5, y6, y7⟩ := HBY.out _ HB8.out
      by_cases hck : E2 = 0
      case neg =>
        have hn2 : (E2 != 0) = true := by simpa using hck
        clear hck
        go_wp2_with fail
        refine (refcheckN _ _ _ _ _ _ _ _ _ _ _ _ _ z0' z1' (HP'.out.below HB8.out) (HQ'.out.below HB8.out) _ hE2).mono ?_
        rintro e w9 ⟨rfl, hb9⟩
        have HB9 := Lib.hid (HB0.out.trans ((HB8.out.trans (hb9.mono HB8.out.size)).mono HB0.out.size))
        clear hb9 y0 y1 y2 y3 y4 y5 y6 y7 hE2
        go_wp2_with fail
        refine (awake05 _).mono ?_
        rintro e w10 ⟨rfl, hb10⟩
        have HB10 := Lib.hid (HB9.out.trans (hb10.mono HB9.out.size))
        clear hb10
        go_wp2_with fail
        go_ret
        exact ⟨rfl, HB10.out⟩
      have hn2 : (E2 != 0) = false := by simp [hck]
      have HE2 := Lib.hid (hE2.trans hck)
      go_wp2_with fail
      refine (refcheckN _ _ _ _ _ _ _ _ _ _ _ _ _ z0' z1' (HP'.out.below HB8.out) (HQ'.out.below HB8.out) _ hE2).mono ?_
      rintro e wS ⟨rfl, hb9⟩
      have HS := Lib.hid (HB8.out.trans (hb9.mono HB8.out.size))
      clear hb9 y0 y1 y2 y3 y4 y5 y6 y7 hE2 hck
      obtain ⟨r1, r2, r3, r4, r5⟩ := check_zero HE1.out
      obtain ⟨r1', r2', r3', r4', r5'⟩ := check_zero HE2.out
      have hs : I64 s := right_i64 (kindE_zero r1).2.1
      have hs' : I64 s' := right_i64 (kindE_zero r1').2.1
      obtain ⟨_, aP, nP⟩ := side_zero r2
      obtain ⟨_, aQ, nQ⟩ := side_zero r3
      obtain ⟨_, aP', nP'⟩ := side_zero r2'
      obtain ⟨_, aQ', nQ'⟩ := side_zero r3'
      have HASC := Lib.hid (And.intro (And.intro aP aQ) (And.intro aP' aQ'))
      have HPOS := Lib.hid (show ((∀ p ∈ P, 0 < p.2) ∧ (∀ p ∈ Q, 0 < p.2)) ∧ ((∀ p ∈ P', 0 < p.2) ∧ (∀ p ∈ Q', 0 < p.2)) from
        ⟨⟨fun p hp => by have := (HP.out.2.1 p hp).2.2.1; have := nP p hp; omega, fun p hp => by have := (HQ.out.2.1 p hp).2.2.1; have := nQ p hp; omega⟩, ⟨fun p hp => by have := (HP'.out.2.1 p hp).2.2.1; have := nP' p hp; omega, fun p hp => by have := (HQ'.out.2.1 p hp).2.2.1; have := nQ' p hp; omega⟩⟩)
      have HTOT := Lib.hid (And.intro (And.intro r4 r5) (And.intro r4' r5'))
      have HSS2 := Lib.hid (And.intro hs hs')
      have HCX := Lib.hid (fun W (hW : Below wS.heap.size wS W) => show Calls Try.prog 10 #[.agg #[.int .i64 k, .int .i64 s, .int .i64 z, .int .u64 zc, .int .u64 ct, .int .i64 sm, .slice A P.length c, .slice B Q.length d]] W (fun e w' => ∃ b n, e = .returned (.map (some b)) ∧ Mp wS w' b n (cF s zc P Q) ∧ Below W.heap.size W w') from by
        refine (cells_any k s z zc ct (.int .i64 sm) A B c d P Q W hs z0 z1 (HP.out.below (HS.out.trans (hW.mono HS.out.size))) (HQ.out.below (HS.out.trans (hW.mono HS.out.size))) (by omega) (by omega) (by omega)).mono ?_
        rintro e w' ⟨b, n, rfl, _, hM⟩
        exact ⟨b, n, rfl, hM.lift hW, hM.2.2⟩)
      have HCY := Lib.hid (fun W (hW : Below wS.heap.size wS W) => show Calls Try.prog 10 #[.agg #[.int .i64 k', .int .i64 s', .int .i64 z', .int .u64 zc', .int .u64 ct', .int .i64 sm', .slice A' P'.length c', .slice B' Q'.length d']] W (fun e w' => ∃ b n, e = .returned (.map (some b)) ∧ Mp wS w' b n (cF s' zc' P' Q') ∧ Below W.heap.size W w') from by
        refine (cells_any k' s' z' zc' ct' (.int .i64 sm') A' B' c' d' P' Q' W hs' z0' z1' (HP'.out.below (HS.out.trans (hW.mono HS.out.size))) (HQ'.out.below (HS.out.trans (hW.mono HS.out.size))) (by omega) (by omega) (by omega)).mono ?_
        rintro e w' ⟨b, n, rfl, _, hM⟩
        exact ⟨b, n, rfl, hM.lift hW, hM.2.2⟩)
      clear r1 r2 r3 r4 r5 r1' r2' r3' r4' r5' hs hs' aP aQ aP' aQ' nP nQ nP' nQ'
      obtain ⟨x0, x1, x2, x3, x4, x5, x6, x7⟩ := HBX.out _ HS.out
      obtain ⟨y0, y1, y2, y3, y4, y5, y6, y7⟩ := HBY.out _ HS.out
      go_upto_region 13 with fail
      go_cut [7, 8] from 79 (fun s7 s8 wx => SmCels wS (cF s zc P Q) (cF s' zc' P' Q') s7 s8 wx)
      case first =>
        go_region_held3 (fun W' => Below wS.heap.size wS W' ∧ (W'.cell? ⟨w.heap.size, 0, none⟩ = some (.int .i64 k) ∧ W'.cell? ⟨w.heap.size, 1, none⟩ = some (.int .i64 s) ∧ W'.cell? ⟨w.heap.size, 2, none⟩ = some (.int .i64 z) ∧ W'.cell? ⟨w.heap.size, 3, none⟩ = some (.int .u64 zc) ∧ W'.cell? ⟨w.heap.size, 4, none⟩ = some (.int .u64 ct) ∧ W'.cell? ⟨w.heap.size, 5, none⟩ = some (.int .i64 sm) ∧ W'.cell? ⟨w.heap.size, 6, none⟩ = some (.slice A P.length c) ∧ W'.cell? ⟨w.heap.size, 7, none⟩ = some (.slice B Q.length d)) ∧ (W'.cell? ⟨w.heap.size + 1, 0, none⟩ = some (.int .i64 k') ∧ W'.cell? ⟨w.heap.size + 1, 1, none⟩ = some (.int .i64 s') ∧ W'.cell? ⟨w.heap.size + 1, 2, none⟩ = some (.int .i64 z') ∧ W'.cell? ⟨w.heap.size + 1, 3, none⟩ = some (.int .u64 zc') ∧ W'.cell? ⟨w.heap.size + 1, 4, none⟩ = some (.int .u64 ct') ∧ W'.cell? ⟨w.heap.size + 1, 5, none⟩ = some (.int .i64 sm') ∧ W'.cell? ⟨w.heap.size + 1, 6, none⟩ = some (.slice A' P'.length c') ∧ W'.cell? ⟨w.heap.size + 1, 7, none⟩ = some (.slice B' Q'.length d')))
          (first | assumption | exact HKK.out wS wS _ HS.out (Below.refl _ _) ((Below.refl _ _).drew) | exact HKK.out wS _ _ HS.out (And.left (by assumption)) (by assumption))
          (first
            | (go_at_call 10; first
              | ((with_reducible refine (HCX.out _ (And.left (by assumption))).mono ?_); rintro e w9 ⟨b1, n1, rfl, hMX, hbX⟩; have HMX := Lib.hid hMX; clear hMX)
              | ((with_reducible refine (HCY.out _ (And.left (by assumption))).mono ?_); rintro e w9 ⟨b2, n2, rfl, hMY, hbY⟩; have HMY := Lib.hid hMY; clear hMY)))
        all_goals (go_wp2_with fail)
        all_goals go_meet
        all_goals first
          | exact ⟨b1, n1, b2, n2, rfl, rfl, HMX.out.late (by assumption), HMY.out⟩
          | exact ⟨b1, n1, b2, n2, rfl, rfl, HMX.out, HMY.out.late (by assumption)⟩
      case rest =>
        obtain ⟨b1, n1, b2, n2, rfl, rfl, hM1, hM2⟩ := hcut
        clear x0 x1 x2 x3 x4 x5 x6 x7 y0 y1 y2 y3 y4 y5 y6 y7 HCX HCY
        obtain ⟨wT, hwT, hM1⟩ : ∃ W, W = _ ∧ Mp wS W b1 n1 (cF s zc P Q) := ⟨_, rfl, hM1⟩
        subst hwT
        obtain ⟨⟨D1, ho1, hr1⟩, _, hbT⟩ := hM1
        obtain ⟨⟨D2, ho2, hr2⟩, _, _⟩ := hM2
        have HT := Lib.hid (HS.out.trans (hbT.mono HS.out.size))
        have HO1 := Lib.hid ho1
        have HO2 := Lib.hid ho2
        have HR1 := Lib.hid hr1
        have HR2 := Lib.hid hr2
        have HK1 := Lib.hid (show (keysF s zc P Q).Nodup ∧ Ins (keysF s zc P Q) ∧ ∀ q ∈ keysF s zc P Q, 0 < cF s zc P Q q.1 q.2.1 q.2.2 from ⟨keys_nodup HASC.out.1.1 HASC.out.1.2, keys_ins HSS2.out.1 HP.out.2.1 HQ.out.2.1, keys_pos HASC.out.1.1 HASC.out.1.2 z0 HPOS.out.1.1 HPOS.out.1.2⟩)
        have HK2 := Lib.hid (show (keysF s' zc' P' Q').Nodup ∧ Ins (keysF s' zc' P' Q') ∧ ∀ q ∈ keysF s' zc' P' Q', 0 < cF s' zc' P' Q' q.1 q.2.1 q.2.2 from ⟨keys_nodup HASC.out.2.1 HASC.out.2.2, keys_ins HSS2.out.2 HP'.out.2.1 HQ'.out.2.1, keys_pos HASC.out.2.1 HASC.out.2.2 z0' HPOS.out.2.1 HPOS.out.2.2⟩)
        have hs1 : size D1 = (keysF s zc P Q).length := hr1.size_eq _ HK1.out.1 HK1.out.2.1 (fun a c i _ _ _ => ⟨fun h => (keys_mem h).1, fun h => Int.ne_of_gt (HK1.out.2.2 (a, c, i) h)⟩)
        have hs2 : size D2 = (keysF s' zc' P' Q').length := hr2.size_eq _ HK2.out.1 HK2.out.2.1 (fun a c i _ _ _ => ⟨fun h => (keys_mem h).1, fun h => Int.ne_of_gt (HK2.out.2.2 (a, c, i) h)⟩)
        obtain ⟨m1, hm1⟩ : ∃ m, size D1 = m := ⟨_, rfl⟩
        obtain ⟨m2, hm2⟩ : ∃ m, size D2 = m := ⟨_, rfl⟩
        have hln1 := fun ty => ho1.len Try.underlying29 ty
        have hln2 := fun ty => ho2.len Try.underlying29 ty
        rw [hm1] at hln1
        rw [hm2] at hln2
        have HMM := Lib.hid (And.intro (hm1.symm.trans hs1) (hm2.symm.trans hs2))
        obtain ⟨E0, hE0⟩ : ∃ E, decide (m1 = m2 ∧ k = k' ∧ s = s' ∧ z = z' ∧ sm = sm') = E := ⟨_, rfl⟩
        have HE0 := Lib.hid hE0
        obtain ⟨x0, x1, x2, x3, x4, x5, x6, x7⟩ := HBX.out _ HT.out
        obtain ⟨y0, y1, y2, y3, y4, y5, y6, y7⟩ := HBY.out _ HT.out
        clear hbT ho1 ho2 hr1 hr2 hs1 hs2 hm1 hm2 hE0
        go_upto_region 14 with fail
        go_cut [9] from 79 (fun s9 wx => s9 = .bool E0 ∧ wx = wT)
        case first =>
          by_cases h0 : m1 = m2
          case neg =>
            have HE := Lib.hid (show E0 = false by rw [← HE0.out]; simp [h0])
            have t0 : ((m1 : Int) == (m2 : Int)) = false := by simp; omega
            clear h0
            go_wp2_with fail
            go_meet
            exact ⟨by rw [HE.out], rfl⟩
          subst h0
          by_cases h1 : k = k'
          case neg =>
            have HE := Lib.hid (show E0 = false by rw [← HE0.out]; simp [h1])
            have t0 : (k == k') = false := by simpa using h1
            clear h1
            go_wp2_with fail
            go_meet
            exact ⟨by rw [HE.out], rfl⟩
          by_cases h2 : s = s'
          case neg =>
            have HE := Lib.hid (show E0 = false by rw [← HE0.out]; simp [h2])
            have t0 : (k == k') = true := by simpa using h1
            have t1 : (s == s') = false := by simpa using h2
            clear h1 h2
            go_wp2_with fail
            go_meet
            exact ⟨by rw [HE.out], rfl⟩
          by_cases h3 : z = z'
          case neg =>
            have HE := Lib.hid (show E0 = false by rw [← HE0.out]; simp [h3])
            have t0 : (k == k') = true := by simpa using h1
            have t1 : (s == s') = true := by simpa using h2
            have t2 : (z == z') = false := by simpa using h3
            clear h1 h2 h3
            go_wp2_with fail
            go_meet
            exact ⟨by rw [HE.out], rfl⟩
          by_cases h4 : sm = sm'
          case neg =>
            have HE := Lib.hid (show E0 = false by rw [← HE0.out]; simp [h4])
            have t0 : (k == k') = true := by simpa using h1
            have t1 : (s == s') = true := by simpa using h2
            have t2 : (z == z') = true := by simpa using h3
            have t3 : (sm == sm') = false := by simpa using h4
            clear h1 h2 h3 h4
            go_wp2_with fail
            go_meet
            exact ⟨by rw [HE.out], rfl⟩
          have HE := Lib.hid (show E0 = true by rw [← HE0.out]; simp [h1, h2, h3, h4])
          have t0 : (k == k') = true := by simpa using h1
          have t1 : (s == s') = true := by simpa using h2
          have t2 : (z == z') = true := by simpa using h3
          have t3 : (sm == sm') = true := by simpa using h4
          clear h1 h2 h3 h4
          go_wp2_with fail
          go_meet
          exact ⟨by rw [HE.out], rfl⟩
        case rest =>
          obtain ⟨rfl, hwx⟩ := hcut
          rw [hwx]
          clear hwx
          clear x0 x1 x2 x3 x4 x5 x6 x7 y0 y1 y2 y3 y4 y5 y6 y7 hln1 hln2
          go_wp2_with (refine wpList_range_own _ rfl _ _ rfl 32 22 lawK Try.underlying29 (plainElem Try.prog 22) b1 n1 D1 rfl HO1.out ?_)
          intro w4 hrg4 hg4 hs4
          obtain ⟨r, hr⟩ : ∃ r, wT.heap.size = r := ⟨_, rfl⟩
          have HRS := Lib.hid hr
          have HST := Lib.hid (show SmRng wT b1 r n1 D1 (keysF s zc P Q) (cF s zc P Q) (cF s' zc' P' Q') E0 (.bool E0) w4 from by
            refine ⟨has D1, size D1, E0, rfl, by rw [← hr]; exact hrg4, fun _ h => h, ?_, (Below.refl wT.heap.size wT).grown hg4 (Nat.le_refl _) (fun k hk => by cases hk)⟩
            refine ⟨fun h => ⟨h, fun q hq hl => ?_⟩, fun h => h.1⟩
            have hi := HK1.out.2.1 q hq
            have hp := HK1.out.2.2 q hq
            have h1 := (HR1.out.2.1 q.1 q.2.1 q.2.2 hi.1 hi.2.1 hi.2.2).2.2 (by omega)
            rw [hl] at h1
            cases h1)
          rw [hr]
          have hbr1 : b1 < r := by rw [← hr]; exact HO1.out.lt
          have hbr2 : b2 < r := by rw [← hr]; exact HO2.out.lt
          clear hr hrg4 hg4 hs4
          go_wp2_with fail
          go_loopw [9] (fun s9 wr => SmRng wT b1 r n1 D1 (keysF s zc P Q) (cF s zc P Q) (cF s' zc' P' Q') E0 s9 wr) (fun _ wr => wr.rangeLeft b1 r)
          case atStart => exact HST.out
          case round =>
            obtain ⟨left, cnt, h, rfl, hrng, hsub, hiff, hb⟩ := hrel
            have HB := Lib.hid hb
            have HL := Lib.hid (And.intro hsub hiff)
            have HR := Lib.hid hrng
            clear hsub hiff hb
            go_wp2_with (first
              | (at_next; refine wpList_next_ranges _ rfl _ rfl 32 lawK (plainElem Try.prog 22) mkKey (Value.int .u64) (fun key kl hk => by obtain ⟨s, c, i, rfl, _⟩ := key_inv hk; exact ⟨(s, c, i), rfl⟩) (fun v y hv => by obtain ⟨c, rfl, _⟩ := plainElem_int_inv Try.underlying22 hv; exact ⟨c, rfl⟩) b1 r n1 D1 left cnt rfl hrng ?_ ?_))
            · intro hc0 hl0
              have hv9 : h = v := by
                rw [Bool.eq_iff_iff, HL.out.2, ← HV.out]
                obtain ⟨⟨r4, r5⟩, r4', r5'⟩ := HTOT.out
                obtain ⟨hm1, hm2⟩ := HMM.out
                constructor
                · rintro ⟨hE, hall⟩
                  rw [← HE0.out, decide_eq_true_eq] at hE
                  obtain ⟨em, ek, es, ez, esm⟩ := hE
                  have hall' : ∀ q ∈ keysF s zc P Q, cF s zc' P' Q' q.1 q.2.1 q.2.2 = cF s zc P Q q.1 q.2.1 q.2.2 := fun q hq => by
                    have := hall q hq (hl0 _)
                    rw [← es] at this
                    exact this
                  have hlen : (keysF s zc P Q).length = (keysF s zc' P' Q').length := by
                    rw [← es] at hm2
                    omega
                  obtain ⟨ezc, eP, eQ⟩ := same_cells HASC.out.1.1 HASC.out.1.2 HASC.out.2.1 HASC.out.2.2 HPOS.out.1.1 HPOS.out.1.2 HPOS.out.2.1 HPOS.out.2.2 z0 z0' hlen hall'
                  have ect : ct = ct' := by rw [← r5, ← r5', ezc, eP, eQ]
                  rw [sameF_yes ⟨ek, es, ez, ezc, ect, esm⟩]
                  simp [eqL, eP, eQ]
                · intro hsf
                  unfold sameF eqL at hsf
                  simp only [Bool.and_eq_true, decide_eq_true_eq] at hsf
                  obtain ⟨⟨ek, es, ez, ezc, ect, esm⟩, eP, eQ⟩ := hsf
                  refine ⟨?_, fun q _ _ => by rw [es, ezc, eP, eQ]⟩
                  rw [← HE0.out, decide_eq_true_eq]
                  refine ⟨?_, ek, es, ez, esm⟩
                  rw [hm1, hm2, es, ezc, eP, eQ]
              subst hv9
              have HTr := Lib.hid (HT.out.trans (HB.out.mono HT.out.size))
              obtain ⟨x0, x1, x2, x3, x4, x5, x6, x7⟩ := HBX.out _ HTr.out
              clear hc0 hl0 hrng
              go_wp2_with fail
              refine (empty_any k s _).mono ?_
              rintro e w6 ⟨rfl, hb6⟩
              have HB6 := Lib.hid (HTr.out.trans (hb6.mono HTr.out.size))
              clear hb6 x0 x1 x2 x3 x4 x5 x6 x7
              obtain ⟨gE, hgE⟩ : ∃ g, w6.heap.size = g := ⟨_, rfl⟩
              obtain ⟨w7, hw7⟩ : ∃ W, w6.alloc (.cells #[.int .i64 k, .int .i64 s, .int .i64 (-524288), .int .u64 0, .int .u64 0, .int .i64 0, .slice none 0 0, .slice none 0 0] 25) = W := ⟨_, rfl⟩
              have HBE := Lib.hid (box8b (show w7.heap[gE]? = some (.cells #[.int .i64 k, .int .i64 s, .int .i64 (-524288), .int .u64 0, .int .u64 0, .int .i64 0, .slice none 0 0, .slice none 0 0] 25 (0, 0)) by rw [← hw7, ← hgE]; exact heap_alloc_new w6 _))
              have HB7 := Lib.hid (show Below w0.heap.size w0 w7 by rw [← hw7]; exact HB6.out.alloc HB6.out.size _)
              have hWW7 := Lib.hid hw7
              have hGE := Lib.hid hgE
              clear hw7 hgE
              go_wp2_with fail
              rw [hWW7.out, hGE.out]
              refine (awake05 _).mono ?_
              rintro e w8 ⟨rfl, hb8⟩
              have HB78 := Lib.hid hb8
              have HB8' := Lib.hid (HB7.out.trans (hb8.mono HB7.out.size))
              clear hb8
              obtain ⟨x0, x1, x2, x3, x4, x5, x6, x7⟩ := HBX.out _ HB8'.out
              obtain ⟨y0, y1, y2, y3, y4, y5, y6, y7⟩ := HBY.out _ HB8'.out
              go_wp2_with fail
              refine (isameN k s z zc ct sm k' s' z' zc' ct' sm' A B A' B' c d c' d' P Q P' Q' w8 (HP.out.below HB8'.out) (HQ.out.below HB8'.out) (HP'.out.below HB8'.out) (HQ'.out.below HB8'.out) h HV.out).mono ?_
              rintro e w9 ⟨rfl, hb9⟩
              have HB79 := Lib.hid (HB78.out.trans (hb9.mono HB78.out.size))
              clear hb9 x0 x1 x2 x3 x4 x5 x6 x7 y0 y1 y2 y3 y4 y5 y6 y7
              obtain ⟨x0, x1, x2, x3, x4, x5, x6, x7⟩ := HBE.out _ HB79.out
              have hhh : (h == h) = true := by simp
              go_wp2_with fail
              refine (checkN k s (-524288) 0 0 (.int .i64 0) none none 0 0 [] [] w9 (by decide) (by decide) (Bk.nil _ _) (Bk.nil _ _) 0 (check_empty HE1.out)).mono ?_
              rintro e w10 ⟨rfl, hb10⟩
              have HB710 := Lib.hid (HB79.out.trans (hb10.mono HB79.out.size))
              clear hb10 x0 x1 x2 x3 x4 x5 x6 x7
              obtain ⟨x0, x1, x2, x3, x4, x5, x6, x7⟩ := HBE.out _ HB710.out
              go_wp2_with fail
              refine (cells_any k s (-524288) 0 0 (.int .i64 0) none none 0 0 [] [] w10 HSS2.out.1 (by decide) (by decide) (Bk.nil _ _) (Bk.nil _ _) (by decide) (by decide) (by decide)).mono ?_
              rintro e w11 ⟨b3, n3, rfl, _, hM3⟩
              obtain ⟨⟨D3, ho3, hr3⟩, _, hb11⟩ := hM3
              have hs3 : size D3 = 0 := hr3.size_eq [] List.nodup_nil (by simp) (fun a c i _ _ _ => ⟨fun h => by have := (keys_mem h).1; simp [keysF] at this, fun h => by cases h⟩)
              have hln3 := fun ty => ho3.len Try.underlying29 ty
              rw [hs3] at hln3
              have HEND := Lib.hid (HB0.out.trans ((HB7.out.trans ((HB710.out.trans (hb11.mono HB710.out.size)).mono HB7.out.size)).mono HB0.out.size))
              clear hs3 ho3 hr3 hb11 x0 x1 x2 x3 x4 x5 x6 x7
              go_wp2_with fail
              go_ret
              exact ⟨rfl, HEND.out⟩
            · intro s0 c0 i nn kl yd yp w5 cnt2 hkey hlk hvv hat hrg2 hlt hg2 hs2 hen
              have hkey2 : ∃ s c j, mkKey (s0, c0, i) = .agg #[.int .i64 s, .int .i64 c, .int .i64 j] ∧ I64 s ∧ I64 c ∧ I64 j ∧ kl = kL s c j := key_inv hkey
              obtain ⟨s1, c1', i1, he, hss, hcc, hii, hkl⟩ := hkey2
              simp [mkKey] at he
              obtain ⟨rfl, rfl, rfl⟩ := he
              obtain ⟨nn', en, hy, _⟩ := plainElem_int_inv Try.underlying22 hvv
              have hnn' : nn = nn' := by simpa using en
              subst hnn'
              have hfn : cF s zc P Q s0 c0 i = nn := by
                have h1 := (HR1.out.2.1 s0 c0 i hss hcc hii).1
                rw [← hkl, hat] at h1
                simp at hy h1
                rw [hy.1] at h1
                simpa using h1.symm
              have hf0 : cF s zc P Q s0 c0 i ≠ 0 := (HR1.out.2.1 s0 c0 i hss hcc hii).2.1 (by rw [← hkl]; exact HL.out.1 kl hlk)
              have hmem := (keys_mem hf0).1
              obtain ⟨g2, hg2'⟩ : ∃ g, cF s' zc' P' Q' s0 c0 i = g := ⟨_, rfl⟩
              have hr2k := HR2.out.2.1 s0 c0 i hss hcc hii
              rw [hg2'] at hr2k
              have HNEW := Lib.hid (show ∀ h2 : Bool, (h2 = true ↔ h = true ∧ g2 = nn) → (h2 = true ↔ E0 = true ∧ ∀ q ∈ keysF s zc P Q, (fun z => left z && !z.sameKey kl) (kL q.1 q.2.1 q.2.2) = false → cF s' zc' P' Q' q.1 q.2.1 q.2.2 = cF s zc P Q q.1 q.2.1 q.2.2) from fun h2 hh => by
                rw [hh, HL.out.2]
                constructor
                · rintro ⟨⟨a1, a2⟩, a3⟩
                  refine ⟨a1, fun q hq hl => ?_⟩
                  by_cases hqe : q = (s0, c0, i)
                  · subst hqe; simp only; rw [hfn, hg2', a3]
                  · refine a2 q hq ?_
                    have hoff := key_off (HK1.out.2.1 q hq) (q := (s0, c0, i)) ⟨hss, hcc, hii⟩ hqe
                    simp only [hkl, hoff] at hl
                    simpa using hl
                · rintro ⟨a1, a2⟩
                  refine ⟨⟨a1, fun q hq hl => a2 q hq (by simp only [hl, Bool.false_and])⟩, ?_⟩
                  have := a2 (s0, c0, i) hmem (by simp only [hkl, WideAt.sameKey_self (kL_key _ _ _)]; simp)
                  simp only at this
                  rw [← hg2', this, hfn])
              have HN0 := Lib.hid (show nn ≠ 0 by rw [← hfn]; exact hf0)
              have hB5 : Below wT.heap.size wT w5 := HB.out.grown hg2 HB.out.size (fun k hk => by cases hk; rw [HRS.out]; exact Nat.le_refl _)
              have HB5 := Lib.hid (hB5.alloc hB5.size (.cells #[.int .i64 s0, .int .i64 c0, .int .i64 i] 32))
              have HR5 := Lib.hid (And.intro (hrg2.alloc (.cells #[.int .i64 s0, .int .i64 c0, .int .i64 i] 32)) hlt)
              have HO25 := Lib.hid (show (w5.alloc (.cells #[.int .i64 s0, .int .i64 c0, .int .i64 i] 32)).ownsMap Try.prog 32 (plainElem Try.prog 22) b2 n2 D2 from (HO2.out.kept (below_grownBy hB5) (by simp)).alloc _)
              have hkeyL : keyOf Try.prog 32 (.agg #[.int .i64 s0, .int .i64 c0, .int .i64 i]) = some kl := hkey
              have HR2K := Lib.hid hr2k
              have HKL := Lib.hid hkl
              clear hs2 hfn hf0 hy en hcc hss hii hmem hkey hlk hvv hat hrg2 hlt hg2 hB5 hrng hkl hg2' hr2k
              change (Instr.entry (.pointer (some ⟨r, 0, none⟩))).run Try.prog w5 = .ok (.tuple #[.agg #[.int .i64 s0, .int .i64 c0, .int .i64 i], .int .u64 nn]) w5 at hen
              go_wp2_with (at_lookup; refine wpList_lookup_own_ok_int _ rfl _ _ _ rfl 32 22 .u64 lawK Try.underlying29 Try.underlying22 (zeroU _) b2 n2 D2 rfl HO25.out _ kl rfl hkeyL ?_)
              intro c2 hat2 hwc2
              have hcg : c2 = g2 := by
                have h1 := HR2K.out.1
                rw [← HKL.out, hat2] at h1
                simpa using h1
              subst hcg
              obtain ⟨okb, hok⟩ : ∃ o, has D2 kl = o := ⟨_, rfl⟩
              have HOK := Lib.hid (show okb = true ↔ c2 ≠ 0 from by rw [← hok, HKL.out]; exact HR2K.out.2)
              rw [hok]
              clear hat2 hwc2 hok hen
              cases h with
              | false =>
                have HF := Lib.hid (HNEW.out false (by simp))
                go_wp2_with fail
                go_roundw
                case rel => exact ⟨_, cnt2, false, rfl, HR5.out.1, fun kl' h' => HL.out.1 kl' (by simp only [Bool.and_eq_true] at h'; exact h'.1), HF.out, HB5.out⟩
                case measure => rw [HR5.out.1.left_eq, HR.out.left_eq]; exact HR5.out.2
              | true =>
                cases okb with
                | false =>
                  have HF := Lib.hid (HNEW.out false (by
                    have h1 : c2 = 0 := Classical.byContradiction fun e => by have := HOK.out.2 e; cases this
                    have h2 := HN0.out
                    constructor
                    · intro e; cases e
                    · rintro ⟨_, e⟩; omega))
                  go_wp2_with fail
                  go_roundw
                  case rel => exact ⟨_, cnt2, false, rfl, HR5.out.1, fun kl' h' => HL.out.1 kl' (by simp only [Bool.and_eq_true] at h'; exact h'.1), HF.out, HB5.out⟩
                  case measure => rw [HR5.out.1.left_eq, HR.out.left_eq]; exact HR5.out.2
                | true =>
                  by_cases hce : c2 = nn
                  · have HF := Lib.hid (HNEW.out true (by simp [hce]))
                    have hce' : (c2 == nn) = true := by simpa using hce
                    clear hce
                    go_wp2_with fail
                    go_roundw
                    case rel => exact ⟨_, cnt2, true, rfl, HR5.out.1, fun kl' h' => HL.out.1 kl' (by simp only [Bool.and_eq_true] at h'; exact h'.1), HF.out, HB5.out⟩
                    case measure => rw [HR5.out.1.left_eq, HR.out.left_eq]; exact HR5.out.2
                  · have HF := Lib.hid (HNEW.out false (by simp [hce]))
                    have hce' : (c2 == nn) = false := by simpa using hce
                    clear hce
                    go_wp2_with fail
                    go_roundw
                    case rel => exact ⟨_, cnt2, false, rfl, HR5.out.1, fun kl' h' => HL.out.1 kl' (by simp only [Bool.and_eq_true] at h'; exact h'.1), HF.out, HB5.out⟩
                    case measure => rw [HR5.out.1.left_eq, HR.out.left_eq]; exact HR5.out.2
theorem same_walk (k s z zc ct sm k' s' z' zc' ct' sm' : Int) (A B A' B' : Option Addr) (c d c' d' : Nat) (P Q P' Q' : List (Int × Int)) (w : World) (z0 : 0 ≤ zc) (z1 : zc ≤ 18446744073709551615) (z0' : 0 ≤ zc') (z1' : zc' ≤ 18446744073709551615) (hP : Bk w A P) (hQ : Bk w B Q) (hP' : Bk w A' P') (hQ' : Bk w B' Q') :
    Calls Try.prog 4 #[.agg #[.int .i64 k, .int .i64 s, .int .i64 z, .int .u64 zc, .int .u64 ct, .int .i64 sm, .slice A P.length c, .slice B Q.length d], .agg #[.int .i64 k', .int .i64 s', .int .i64 z', .int .u64 zc', .int .u64 ct', .int .i64 sm', .slice A' P'.length c', .slice B' Q'.length d']] w fun e w' => e = .returned (.bool true) ∧ Below w.heap.size w w' := by
  by_cases h : (P.length ≤ 600 ∧ Q.length ≤ 600) ∧ (P'.length ≤ 600 ∧ Q'.length ≤ 600)
  · exact same_main k s z zc ct sm k' s' z' zc' ct' sm' A B A' B' c d c' d' P Q P' Q' w z0 z1 z0' z1' hP hQ hP' hQ' h.1.1 h.1.2 h.2.1 h.2.2
  · exact same_heavy k s z zc ct sm k' s' z' zc' ct' sm' A B A' B' c d c' d' P.length Q.length P'.length Q'.length w h
end Go.Proofs.Ytoombgjjdkocjaa
