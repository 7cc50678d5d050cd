import Derived.Test.YtakomfnajeolcaaGreatDoorCtA28
set_option linter.unusedVariables false
/- Alike. -/
namespace Go.Proofs.YtakomfnajeolcaaGreatDoor
open Go.RowKit Go.Sort Go.Maps
set_option linter.unusedVariables false

/-- what Down to a schema that may be asked answers (MdK shows it) -/
def DownC : Prop := ∀ (h : HV) (t : Int) (A B : Option Addr) (c d : Nat) (w : World), Bk w A h.P → Bk w B h.Q → Ok h → rightB t = true → t ≤ h.s →
  Calls Tryz.prog 142 #[.agg #[.int .i64 h.k, .int .i64 h.s, .int .i64 h.z, .int .u64 h.zc, .int .u64 h.ct, .int .i64 h.sm, .slice A h.P.length c, .slice B h.Q.length d], .int .i64 t] w (RetH w (downF h t) 0)
/-- the two boxes of histograms that are made alike, round by round -/
def AkRel (w w0 : World) (a0 b0 : HV) (wr : World) : Prop :=
  ∃ (x y : HV) (A1 B1 A2 B2 : Option Addr) (c1 d1 c2 d2 : Nat), (Box wr (w.heap.size) (.int .i64 x.k) (.int .i64 x.s) (.int .i64 x.z) (.int .u64 x.zc) (.int .u64 x.ct) (.int .i64 x.sm) (.slice A1 x.P.length c1) (.slice B1 x.Q.length d1) ∧ Box wr (w.heap.size + 1) (.int .i64 y.k) (.int .i64 y.s) (.int .i64 y.z) (.int .u64 y.zc) (.int .u64 y.ct) (.int .i64 y.sm) (.slice A2 y.P.length c2) (.slice B2 y.Q.length d2)) ∧ (Box wr (w.heap.size + 1 + 1) (.int .i64 0) (.int .i64 0) (.int .i64 0) (.int .u64 0) (.int .u64 0) (.int .i64 0) (.slice none 0 0) (.slice none 0 0) ∧ Box wr (w.heap.size + 1 + 1 + 1) (.int .i64 0) (.int .i64 0) (.int .i64 0) (.int .u64 0) (.int .u64 0) (.int .i64 0) (.slice none 0 0) (.slice none 0 0)) ∧
    ((Bk wr A1 x.P ∧ Bk wr B1 x.Q) ∧ (Bk wr A2 y.P ∧ Bk wr B2 y.Q)) ∧ ((NewA w0 A1 ∧ NewA w0 B1) ∧ (NewA w0 A2 ∧ NewA w0 B2)) ∧ (Ok x ∧ Ok y) ∧ (∀ p q, Alk x y p q → Alk a0 b0 p q) ∧ w0.heap.size ≤ wr.heap.size ∧ Below w.heap.size w wr
def AlkOut (w : World) (a0 b0 : HV) (e : Ending) (w' : World) : Prop := ∃ x y, Alk a0 b0 x y ∧ RetT w x y 0 e w'
theorem ak_less {x y : HV} (ox : Ok x) (oy : Ok y) (n : x.z ≠ y.z) {m : Int} (hm : max x.z y.z = m) :
    (262144 - max (swF x m).z (swF y m).z).toNat * 2 + (if (swF x m).z = (swF y m).z then 0 else 1) < (262144 - max x.z y.z).toNat * 2 + (if x.z = y.z then 0 else 1) := by
  have g1 := sw_ge ox m
  have g2 := sw_ge oy m
  have hz : zr m := by rw [← hm]; exact zr_max ox.z oy.z
  have z1 := (sw_ok ox hz).z
  have z2 := (sw_ok oy hz).z
  have hs : (swF x m).z = m ∨ (swF y m).z = m := by
    rcases Int.le_total x.z y.z with h | h
    · have e : m = y.z := by omega
      rw [e, sw_self oy]
      exact .inr rfl
    · have e : m = x.z := by omega
      rw [e, sw_self ox]
      exact .inl rfl
  rw [if_neg n]
  unfold zr at z1 z2 hz
  split <;> omega
theorem AlkOut.drew {w : World} {a0 b0 : HV} {e : Ending} {w' : World} (h : AlkOut w a0 b0 e w') : AlkOut w a0 b0 e w'.drew := by
  obtain ⟨x, y, h1, h2⟩ := h
  exact ⟨x, y, h1, h2.drew⟩
/-- a cell's number -/
def zAt (W : World) (g : Nat) : Int := intOf ((W.cell? ⟨g, 2, none⟩).getD undef)
set_option maxHeartbeats 4000000 in
set_option maxRecDepth 100000 in
theorem alike_any (DC : DownC) (k s z zc ct sm : Int) (P Q : List (Int × Int)) (k' s' z' zc' ct' sm' : Int) (P' Q' : List (Int × Int)) (A B A' B' : Option Addr) (c d c' d' : Nat) (w : World) (hP : Bk w A P) (hQ : Bk w B Q) (hP' : Bk w A' P') (hQ' : Bk w B' Q')
    (o : Ok ⟨k, s, z, zc, ct, sm, P, Q⟩) (o' : Ok ⟨k', s', z', zc', ct', sm', P', Q'⟩) (a0 b0 : HV) (ha0 : downF ⟨k, s, z, zc, ct, sm, P, Q⟩ (min s s') = a0) (hb0' : downF ⟨k', s', z', zc', ct', sm', P', Q'⟩ (min s s') = b0) :
    Calls Tryz.prog 131 #[.agg #[.int .i64 k, .int .i64 s, .int .i64 z, .int .u64 zc, .int .u64 ct, .int .i64 sm, .slice A P.length c, .slice B Q.length d], .agg #[.int .i64 k', .int .i64 s', .int .i64 z', .int .u64 zc', .int .u64 ct', .int .i64 sm', .slice A' P'.length c', .slice B' Q'.length d']] w (AlkOut w a0 b0) := by
  have HP := Lib.hid (And.intro (And.intro hP hQ) (And.intro hP' hQ'))
  have HO := Lib.hid (And.intro o o')
  have bx0 := (((Box.new w (.int .i64 k) (.int .i64 s) (.int .i64 z) (.int .u64 zc) (.int .u64 ct) (.int .i64 sm) (.slice A P.length c) (.slice B Q.length d)).alloc (.cells #[.int .i64 k', .int .i64 s', .int .i64 z', .int .u64 zc', .int .u64 ct', .int .i64 sm', .slice A' P'.length c', .slice B' Q'.length d'] 39)).alloc (.cells #[.int .i64 0, .int .i64 0, .int .i64 0, .int .u64 0, .int .u64 0, .int .i64 0, .slice none 0 0, .slice none 0 0] 39)).alloc (.cells #[.int .i64 0, .int .i64 0, .int .i64 0, .int .u64 0, .int .u64 0, .int .i64 0, .slice none 0 0, .slice none 0 0] 39)
  have bx1 := ((Box.newAt (w.alloc (.cells #[.int .i64 k, .int .i64 s, .int .i64 z, .int .u64 zc, .int .u64 ct, .int .i64 sm, .slice A P.length c, .slice B Q.length d] 39)) (w.heap.size + 1) (by simp) (.int .i64 k') (.int .i64 s') (.int .i64 z') (.int .u64 zc') (.int .u64 ct') (.int .i64 sm') (.slice A' P'.length c') (.slice B' Q'.length d')).alloc (.cells #[.int .i64 0, .int .i64 0, .int .i64 0, .int .u64 0, .int .u64 0, .int .i64 0, .slice none 0 0, .slice none 0 0] 39)).alloc (.cells #[.int .i64 0, .int .i64 0, .int .i64 0, .int .u64 0, .int .u64 0, .int .i64 0, .slice none 0 0, .slice none 0 0] 39)
  have bx2 := (Box.newAt ((w.alloc (.cells #[.int .i64 k, .int .i64 s, .int .i64 z, .int .u64 zc, .int .u64 ct, .int .i64 sm, .slice A P.length c, .slice B Q.length d] 39)).alloc (.cells #[.int .i64 k', .int .i64 s', .int .i64 z', .int .u64 zc', .int .u64 ct', .int .i64 sm', .slice A' P'.length c', .slice B' Q'.length d'] 39)) (w.heap.size + 1 + 1) (by simp) (.int .i64 0) (.int .i64 0) (.int .i64 0) (.int .u64 0) (.int .u64 0) (.int .i64 0) (.slice none 0 0) (.slice none 0 0)).alloc (.cells #[.int .i64 0, .int .i64 0, .int .i64 0, .int .u64 0, .int .u64 0, .int .i64 0, .slice none 0 0, .slice none 0 0] 39)
  have bx3 := Box.newAt (((w.alloc (.cells #[.int .i64 k, .int .i64 s, .int .i64 z, .int .u64 zc, .int .u64 ct, .int .i64 sm, .slice A P.length c, .slice B Q.length d] 39)).alloc (.cells #[.int .i64 k', .int .i64 s', .int .i64 z', .int .u64 zc', .int .u64 ct', .int .i64 sm', .slice A' P'.length c', .slice B' Q'.length d'] 39)).alloc (.cells #[.int .i64 0, .int .i64 0, .int .i64 0, .int .u64 0, .int .u64 0, .int .i64 0, .slice none 0 0, .slice none 0 0] 39)) (w.heap.size + 1 + 1 + 1) (by simp) (.int .i64 0) (.int .i64 0) (.int .i64 0) (.int .u64 0) (.int .u64 0) (.int .i64 0) (.slice none 0 0) (.slice none 0 0)
  have hb := ((((Below.refl w.heap.size w).alloc (Nat.le_refl _) (.cells #[.int .i64 k, .int .i64 s, .int .i64 z, .int .u64 zc, .int .u64 ct, .int .i64 sm, .slice A P.length c, .slice B Q.length d] 39)).alloc (by simp) (.cells #[.int .i64 k', .int .i64 s', .int .i64 z', .int .u64 zc', .int .u64 ct', .int .i64 sm', .slice A' P'.length c', .slice B' Q'.length d'] 39)).alloc (by simp; omega) (.cells #[.int .i64 0, .int .i64 0, .int .i64 0, .int .u64 0, .int .u64 0, .int .i64 0, .slice none 0 0, .slice none 0 0] 39)).alloc (by simp; omega) (.cells #[.int .i64 0, .int .i64 0, .int .i64 0, .int .u64 0, .int .u64 0, .int .i64 0, .slice none 0 0, .slice none 0 0] 39)
  have HX := Lib.hid (And.intro (And.intro bx0 bx1) (And.intro bx2 bx3))
  have HB := Lib.hid hb
  have ht : rightB (min s s') = true := by
    have h1 := right_yes o.s
    have h2 := right_yes o'.s
    simp only at h1 h2
    exact right_iff.2 (by omega)
  have HT := Lib.hid ht
  have HD := Lib.hid (And.intro ha0 hb0')
  have HOK := Lib.hid (show (Ok a0 ∧ Ok b0) ∧ a0.s = b0.s from ⟨⟨by rw [← ha0]; exact down_ok o ht (Int.min_le_left _ _), by rw [← hb0']; exact down_ok o' ht (Int.min_le_right _ _)⟩, by rw [← ha0, ← hb0', down_s, down_s]⟩)
  clear hP hQ hP' hQ' o o' bx0 bx1 bx2 bx3 hb ht ha0 hb0'
  go_enter Tryz.func131, Tryz.ntmps131
  go_wp2_with fail
  generalize ((((w.alloc (.cells #[.int .i64 k, .int .i64 s, .int .i64 z, .int .u64 zc, .int .u64 ct, .int .i64 sm, .slice A P.length c, .slice B Q.length d] 39)).alloc (.cells #[.int .i64 k', .int .i64 s', .int .i64 z', .int .u64 zc', .int .u64 ct', .int .i64 sm', .slice A' P'.length c', .slice B' Q'.length d'] 39)).alloc (.cells #[.int .i64 0, .int .i64 0, .int .i64 0, .int .u64 0, .int .u64 0, .int .i64 0, .slice none 0 0, .slice none 0 0] 39)).alloc (.cells #[.int .i64 0, .int .i64 0, .int .i64 0, .int .u64 0, .int .u64 0, .int .i64 0, .slice none 0 0, .slice none 0 0] 39)) = w0 at *
  refine (mboth_down (min s s') k s z zc ct sm P Q k' s' z' zc' ct' sm' P' Q' a0 b0 A B A' B' c d c' d' w0 (fun W hW => (DC ⟨k, s, z, zc, ct, sm, P, Q⟩ (min s s') A B c d W (HP.out.1.1.below (HB.out.trans (hW.mono HB.out.size))) (HP.out.1.2.below (HB.out.trans (hW.mono HB.out.size))) HO.out.1 HT.out (Int.min_le_left _ _)).mono (fun e w' h => h.as HD.out.1 rfl)) (fun W hW => (DC ⟨k', s', z', zc', ct', sm', P', Q'⟩ (min s s') A' B' c' d' W (HP.out.2.1.below (HB.out.trans (hW.mono HB.out.size))) (HP.out.2.2.below (HB.out.trans (hW.mono HB.out.size))) HO.out.2 HT.out (Int.min_le_right _ _)).mono (fun e w' h => h.as HD.out.2 rfl))).mono ?_
  rintro e w1 ⟨A1, B1, A2, B2, c1, d1, c2, d2, rfl, ⟨hA1, hB1, hA2, hB2⟩, hb1, nA1, nB1, nA2, nB2⟩
  have hl0 := HX.out.1.1.lt
  have hl1 := HX.out.1.2.lt
  have hl2 := HX.out.2.1.lt
  have hl3 := HX.out.2.2.lt
  have HX1 := Lib.hid (And.intro (And.intro (HX.out.1.1.below hb1) (HX.out.1.2.below hb1)) (And.intro (HX.out.2.1.below hb1) (HX.out.2.2.below hb1)))
  have HB1 := Lib.hid (HB.out.trans (hb1.mono HB.out.size))
  have HS1 := Lib.hid hb1.size
  have HN := Lib.hid (And.intro (And.intro nA1 nB1) (And.intro nA2 nB2))
  have HL := Lib.hid (And.intro (And.intro hl0 hl1) (And.intro hl2 hl3))
  have HA1 := Lib.hid (And.intro (And.intro hA1 hB1) (And.intro hA2 hB2))
  obtain ⟨x0, x1, x2, x3, x4, x5, x6, x7⟩ := HX1.out.1.1.cells
  obtain ⟨f0, f1, f2, f3, f4, f5, f6, f7⟩ := HX1.out.1.1.frozen
  obtain ⟨y0, y1, y2, y3, y4, y5, y6, y7⟩ := HX1.out.1.2.cells
  obtain ⟨g0, g1, g2, g3, g4, g5, g6, g7⟩ := HX1.out.1.2.frozen
  have e0 := HX1.out.1.1.lt
  have e1 := HX1.out.1.2.lt
  clear hb1 hA1 hB1 hA2 hB2 nA1 nB1 nA2 nB2 hl0 hl1 hl2 hl3
  simp only [hvA]
  go_wp2_with fail
  have HX2 := Lib.hid (And.intro (And.intro (Box.off8 (HX1.out.1.1.put8 (.int .i64 a0.k) (.int .i64 a0.s) (.int .i64 a0.z) (.int .u64 a0.zc) (.int .u64 a0.ct) (.int .i64 a0.sm) (.slice A1 a0.P.length c1) (.slice B1 a0.Q.length d1)) (show w.heap.size ≠ w.heap.size + 1 by omega) (.int .i64 b0.k) (.int .i64 b0.s) (.int .i64 b0.z) (.int .u64 b0.zc) (.int .u64 b0.ct) (.int .i64 b0.sm) (.slice A2 b0.P.length c2) (.slice B2 b0.Q.length d2)) (Box.put8 (HX1.out.1.2.off8 (show w.heap.size + 1 ≠ w.heap.size by omega) (.int .i64 a0.k) (.int .i64 a0.s) (.int .i64 a0.z) (.int .u64 a0.zc) (.int .u64 a0.ct) (.int .i64 a0.sm) (.slice A1 a0.P.length c1) (.slice B1 a0.Q.length d1)) (.int .i64 b0.k) (.int .i64 b0.s) (.int .i64 b0.z) (.int .u64 b0.zc) (.int .u64 b0.ct) (.int .i64 b0.sm) (.slice A2 b0.P.length c2) (.slice B2 b0.Q.length d2))) (And.intro (Box.off8 (HX1.out.2.1.off8 (show w.heap.size + 1 + 1 ≠ w.heap.size by omega) (.int .i64 a0.k) (.int .i64 a0.s) (.int .i64 a0.z) (.int .u64 a0.zc) (.int .u64 a0.ct) (.int .i64 a0.sm) (.slice A1 a0.P.length c1) (.slice B1 a0.Q.length d1)) (show w.heap.size + 1 + 1 ≠ w.heap.size + 1 by omega) (.int .i64 b0.k) (.int .i64 b0.s) (.int .i64 b0.z) (.int .u64 b0.zc) (.int .u64 b0.ct) (.int .i64 b0.sm) (.slice A2 b0.P.length c2) (.slice B2 b0.Q.length d2)) (Box.off8 (HX1.out.2.2.off8 (show w.heap.size + 1 + 1 + 1 ≠ w.heap.size by omega) (.int .i64 a0.k) (.int .i64 a0.s) (.int .i64 a0.z) (.int .u64 a0.zc) (.int .u64 a0.ct) (.int .i64 a0.sm) (.slice A1 a0.P.length c1) (.slice B1 a0.Q.length d1)) (show w.heap.size + 1 + 1 + 1 ≠ w.heap.size + 1 by omega) (.int .i64 b0.k) (.int .i64 b0.s) (.int .i64 b0.z) (.int .u64 b0.zc) (.int .u64 b0.ct) (.int .i64 b0.sm) (.slice A2 b0.P.length c2) (.slice B2 b0.Q.length d2))))
  have HB2 := Lib.hid (below_set8 (below_set8 HB1.out (by omega : w.heap.size ≤ w.heap.size) (.int .i64 a0.k) (.int .i64 a0.s) (.int .i64 a0.z) (.int .u64 a0.zc) (.int .u64 a0.ct) (.int .i64 a0.sm) (.slice A1 a0.P.length c1) (.slice B1 a0.Q.length d1)) (by omega : w.heap.size ≤ w.heap.size + 1) (.int .i64 b0.k) (.int .i64 b0.s) (.int .i64 b0.z) (.int .u64 b0.zc) (.int .u64 b0.ct) (.int .i64 b0.sm) (.slice A2 b0.P.length c2) (.slice B2 b0.Q.length d2))
  have HA2 := Lib.hid (And.intro (And.intro ((HA1.out.1.1.set8 (HN.out.1.1.ne HL.out.1.1) (.int .i64 a0.k) (.int .i64 a0.s) (.int .i64 a0.z) (.int .u64 a0.zc) (.int .u64 a0.ct) (.int .i64 a0.sm) (.slice A1 a0.P.length c1) (.slice B1 a0.Q.length d1)).set8 (HN.out.1.1.ne HL.out.1.2) (.int .i64 b0.k) (.int .i64 b0.s) (.int .i64 b0.z) (.int .u64 b0.zc) (.int .u64 b0.ct) (.int .i64 b0.sm) (.slice A2 b0.P.length c2) (.slice B2 b0.Q.length d2)) ((HA1.out.1.2.set8 (HN.out.1.2.ne HL.out.1.1) (.int .i64 a0.k) (.int .i64 a0.s) (.int .i64 a0.z) (.int .u64 a0.zc) (.int .u64 a0.ct) (.int .i64 a0.sm) (.slice A1 a0.P.length c1) (.slice B1 a0.Q.length d1)).set8 (HN.out.1.2.ne HL.out.1.2) (.int .i64 b0.k) (.int .i64 b0.s) (.int .i64 b0.z) (.int .u64 b0.zc) (.int .u64 b0.ct) (.int .i64 b0.sm) (.slice A2 b0.P.length c2) (.slice B2 b0.Q.length d2))) (And.intro ((HA1.out.2.1.set8 (HN.out.2.1.ne HL.out.1.1) (.int .i64 a0.k) (.int .i64 a0.s) (.int .i64 a0.z) (.int .u64 a0.zc) (.int .u64 a0.ct) (.int .i64 a0.sm) (.slice A1 a0.P.length c1) (.slice B1 a0.Q.length d1)).set8 (HN.out.2.1.ne HL.out.1.2) (.int .i64 b0.k) (.int .i64 b0.s) (.int .i64 b0.z) (.int .u64 b0.zc) (.int .u64 b0.ct) (.int .i64 b0.sm) (.slice A2 b0.P.length c2) (.slice B2 b0.Q.length d2)) ((HA1.out.2.2.set8 (HN.out.2.2.ne HL.out.1.1) (.int .i64 a0.k) (.int .i64 a0.s) (.int .i64 a0.z) (.int .u64 a0.zc) (.int .u64 a0.ct) (.int .i64 a0.sm) (.slice A1 a0.P.length c1) (.slice B1 a0.Q.length d1)).set8 (HN.out.2.2.ne HL.out.1.2) (.int .i64 b0.k) (.int .i64 b0.s) (.int .i64 b0.z) (.int .u64 b0.zc) (.int .u64 b0.ct) (.int .i64 b0.sm) (.slice A2 b0.P.length c2) (.slice B2 b0.Q.length d2))))
  clear x0 x1 x2 x3 x4 x5 x6 x7 y0 y1 y2 y3 y4 y5 y6 y7 f0 f1 f2 f3 f4 f5 f6 f7 g0 g1 g2 g3 g4 g5 g6 g7 e0 e1
  have HSZ := Lib.hid (show w0.heap.size ≤ (set8 (set8 w1 (w.heap.size) (.int .i64 a0.k) (.int .i64 a0.s) (.int .i64 a0.z) (.int .u64 a0.zc) (.int .u64 a0.ct) (.int .i64 a0.sm) (.slice A1 a0.P.length c1) (.slice B1 a0.Q.length d1)) (w.heap.size + 1) (.int .i64 b0.k) (.int .i64 b0.s) (.int .i64 b0.z) (.int .u64 b0.zc) (.int .u64 b0.ct) (.int .i64 b0.sm) (.slice A2 b0.P.length c2) (.slice B2 b0.Q.length d2)).heap.size by rw [size_set8, size_set8]; exact HS1.out)
  generalize hW : ((((((((((((((((w1.setCell ⟨w.heap.size, 0, none⟩ (.int .i64 a0.k)).setCell ⟨w.heap.size, 1, none⟩ (.int .i64 a0.s)).setCell ⟨w.heap.size, 2, none⟩ (.int .i64 a0.z)).setCell ⟨w.heap.size, 3, none⟩ (.int .u64 a0.zc)).setCell ⟨w.heap.size, 4, none⟩ (.int .u64 a0.ct)).setCell ⟨w.heap.size, 5, none⟩ (.int .i64 a0.sm)).setCell ⟨w.heap.size, 6, none⟩ (.slice A1 a0.P.length c1)).setCell ⟨w.heap.size, 7, none⟩ (.slice B1 a0.Q.length d1)).setCell ⟨w.heap.size + 1, 0, none⟩ (.int .i64 b0.k)).setCell ⟨w.heap.size + 1, 1, none⟩ (.int .i64 b0.s)).setCell ⟨w.heap.size + 1, 2, none⟩ (.int .i64 b0.z)).setCell ⟨w.heap.size + 1, 3, none⟩ (.int .u64 b0.zc)).setCell ⟨w.heap.size + 1, 4, none⟩ (.int .u64 b0.ct)).setCell ⟨w.heap.size + 1, 5, none⟩ (.int .i64 b0.sm)).setCell ⟨w.heap.size + 1, 6, none⟩ (.slice A2 b0.P.length c2)).setCell ⟨w.heap.size + 1, 7, none⟩ (.slice B2 b0.Q.length d2)) = w2
  have hW' : set8 (set8 w1 (w.heap.size) (.int .i64 a0.k) (.int .i64 a0.s) (.int .i64 a0.z) (.int .u64 a0.zc) (.int .u64 a0.ct) (.int .i64 a0.sm) (.slice A1 a0.P.length c1) (.slice B1 a0.Q.length d1)) (w.heap.size + 1) (.int .i64 b0.k) (.int .i64 b0.s) (.int .i64 b0.z) (.int .u64 b0.zc) (.int .u64 b0.ct) (.int .i64 b0.sm) (.slice A2 b0.P.length c2) (.slice B2 b0.Q.length d2) = w2 := hW
  rw [hW'] at HX2 HB2 HA2 HSZ
  clear hW hW' HX1 HB1 HA1
  have HR0 := Lib.hid (show AkRel w w0 a0 b0 w2 from ⟨a0, b0, A1, B1, A2, B2, c1, d1, c2, d2, HX2.out.1, HX2.out.2, HA2.out, HN.out, HOK.out.1, fun _ _ h => h, HSZ.out, HB2.out⟩)
  clear HX2 HB2 HA2 HN
  go_loopw [7] (fun e wr => e = .int .i64 0 ∧ Hid (AkRel w w0 a0 b0 wr)) (fun _ wr => (262144 - max (zAt wr w.heap.size) (zAt wr (w.heap.size + 1))).toNat * 2 + (if zAt wr w.heap.size = zAt wr (w.heap.size + 1) then 0 else 1))
  case atStart => exact ⟨rfl, HR0⟩
  case round =>
    obtain ⟨rfl, HR⟩ := hrel
    clear HR0
    obtain ⟨wo, hwo, HR⟩ : ∃ W, W = _ ∧ Hid (AkRel w w0 a0 b0 W) := ⟨_, rfl, HR⟩
    subst hwo
    obtain ⟨x, y, A1, B1, A2, B2, c1, d1, c2, d2, hX, hZ, hA, hN, hO, hK, hS, hB⟩ := HR.out
    have HXr := Lib.hid hX
    have HZr := Lib.hid hZ
    have HAr := Lib.hid hA
    have HNr := Lib.hid hN
    have HOr := Lib.hid hO
    have HKr := Lib.hid hK
    have HBr := Lib.hid hB
    have HSr := Lib.hid hS
    clear hZ hA hN hO hK hB hS HR
    obtain ⟨x0, x1, x2, x3, x4, x5, x6, x7⟩ := hX.1.cells
    obtain ⟨f0, f1, f2, f3, f4, f5, f6, f7⟩ := hX.1.frozen
    obtain ⟨y0, y1, y2, y3, y4, y5, y6, y7⟩ := hX.2.cells
    obtain ⟨g0, g1, g2, g3, g4, g5, g6, g7⟩ := hX.2.frozen
    have e0 := hX.1.lt
    have e1 := hX.2.lt
    have HM := Lib.hid (show zAt wo w.heap.size = x.z ∧ zAt wo (w.heap.size + 1) = y.z from ⟨by unfold zAt; rw [x2]; rfl, by unfold zAt; rw [y2]; rfl⟩)
    clear hX
    by_cases hz : x.z = y.z
    · have hz1 : (x.z != y.z) = false := by simpa using hz
      have HZE := Lib.hid hz
      clear hz
      clear f0 f1 f2 f3 f4 f5 f6 f7 g0 g1 g2 g3 g4 g5 g6 g7
      go_wp2_with fail
      have HE := Lib.hid (show AlkOut w a0 b0 (.returned (.tuple #[.agg #[.int .i64 x.k, .int .i64 x.s, .int .i64 x.z, .int .u64 x.zc, .int .u64 x.ct, .int .i64 x.sm, .slice A1 x.P.length c1, .slice B1 x.Q.length d1], .agg #[.int .i64 y.k, .int .i64 y.s, .int .i64 y.z, .int .u64 y.zc, .int .u64 y.ct, .int .i64 y.sm, .slice A2 y.P.length c2, .slice B2 y.Q.length d2], .int .i64 0])) (set8 (set8 wo (w.heap.size + 1 + 1) (.int .i64 x.k) (.int .i64 x.s) (.int .i64 x.z) (.int .u64 x.zc) (.int .u64 x.ct) (.int .i64 x.sm) (.slice A1 x.P.length c1) (.slice B1 x.Q.length d1)) (w.heap.size + 1 + 1 + 1) (.int .i64 y.k) (.int .i64 y.s) (.int .i64 y.z) (.int .u64 y.zc) (.int .u64 y.ct) (.int .i64 y.sm) (.slice A2 y.P.length c2) (.slice B2 y.Q.length d2)) from
        ⟨x, y, HKr.out x y (.done HZE.out), A1, B1, A2, B2, c1, d1, c2, d2, rfl, ⟨(HAr.out.1.1.set8 (HNr.out.1.1.ne HL.out.2.1) (.int .i64 x.k) (.int .i64 x.s) (.int .i64 x.z) (.int .u64 x.zc) (.int .u64 x.ct) (.int .i64 x.sm) (.slice A1 x.P.length c1) (.slice B1 x.Q.length d1)).set8 (HNr.out.1.1.ne HL.out.2.2) (.int .i64 y.k) (.int .i64 y.s) (.int .i64 y.z) (.int .u64 y.zc) (.int .u64 y.ct) (.int .i64 y.sm) (.slice A2 y.P.length c2) (.slice B2 y.Q.length d2), (HAr.out.1.2.set8 (HNr.out.1.2.ne HL.out.2.1) (.int .i64 x.k) (.int .i64 x.s) (.int .i64 x.z) (.int .u64 x.zc) (.int .u64 x.ct) (.int .i64 x.sm) (.slice A1 x.P.length c1) (.slice B1 x.Q.length d1)).set8 (HNr.out.1.2.ne HL.out.2.2) (.int .i64 y.k) (.int .i64 y.s) (.int .i64 y.z) (.int .u64 y.zc) (.int .u64 y.ct) (.int .i64 y.sm) (.slice A2 y.P.length c2) (.slice B2 y.Q.length d2), (HAr.out.2.1.set8 (HNr.out.2.1.ne HL.out.2.1) (.int .i64 x.k) (.int .i64 x.s) (.int .i64 x.z) (.int .u64 x.zc) (.int .u64 x.ct) (.int .i64 x.sm) (.slice A1 x.P.length c1) (.slice B1 x.Q.length d1)).set8 (HNr.out.2.1.ne HL.out.2.2) (.int .i64 y.k) (.int .i64 y.s) (.int .i64 y.z) (.int .u64 y.zc) (.int .u64 y.ct) (.int .i64 y.sm) (.slice A2 y.P.length c2) (.slice B2 y.Q.length d2), (HAr.out.2.2.set8 (HNr.out.2.2.ne HL.out.2.1) (.int .i64 x.k) (.int .i64 x.s) (.int .i64 x.z) (.int .u64 x.zc) (.int .u64 x.ct) (.int .i64 x.sm) (.slice A1 x.P.length c1) (.slice B1 x.Q.length d1)).set8 (HNr.out.2.2.ne HL.out.2.2) (.int .i64 y.k) (.int .i64 y.s) (.int .i64 y.z) (.int .u64 y.zc) (.int .u64 y.ct) (.int .i64 y.sm) (.slice A2 y.P.length c2) (.slice B2 y.Q.length d2)⟩,
          below_set8 (below_set8 HBr.out (by omega : w.heap.size ≤ w.heap.size + 1 + 1) (.int .i64 x.k) (.int .i64 x.s) (.int .i64 x.z) (.int .u64 x.zc) (.int .u64 x.ct) (.int .i64 x.sm) (.slice A1 x.P.length c1) (.slice B1 x.Q.length d1)) (by omega : w.heap.size ≤ w.heap.size + 1 + 1 + 1) (.int .i64 y.k) (.int .i64 y.s) (.int .i64 y.z) (.int .u64 y.zc) (.int .u64 y.ct) (.int .i64 y.sm) (.slice A2 y.P.length c2) (.slice B2 y.Q.length d2), HNr.out.1.1.mono HB.out.size, HNr.out.1.2.mono HB.out.size, HNr.out.2.1.mono HB.out.size, HNr.out.2.2.mono HB.out.size⟩)
      have HF := Lib.hid (And.intro (Box.off8 (HZr.out.1.put8 (.int .i64 x.k) (.int .i64 x.s) (.int .i64 x.z) (.int .u64 x.zc) (.int .u64 x.ct) (.int .i64 x.sm) (.slice A1 x.P.length c1) (.slice B1 x.Q.length d1)) (show w.heap.size + 1 + 1 ≠ w.heap.size + 1 + 1 + 1 by omega) (.int .i64 y.k) (.int .i64 y.s) (.int .i64 y.z) (.int .u64 y.zc) (.int .u64 y.ct) (.int .i64 y.sm) (.slice A2 y.P.length c2) (.slice B2 y.Q.length d2)) (Box.put8 (HZr.out.2.off8 (show w.heap.size + 1 + 1 + 1 ≠ w.heap.size + 1 + 1 by omega) (.int .i64 x.k) (.int .i64 x.s) (.int .i64 x.z) (.int .u64 x.zc) (.int .u64 x.ct) (.int .i64 x.sm) (.slice A1 x.P.length c1) (.slice B1 x.Q.length d1)) (.int .i64 y.k) (.int .i64 y.s) (.int .i64 y.z) (.int .u64 y.zc) (.int .u64 y.ct) (.int .i64 y.sm) (.slice A2 y.P.length c2) (.slice B2 y.Q.length d2)))
      obtain ⟨z0, z1, z2, z3, z4, z5, z6, z7⟩ := HZr.out.1.cells
      obtain ⟨g0, g1, g2, g3, g4, g5, g6, g7⟩ := HZr.out.1.frozen
      obtain ⟨t0, t1, t2, t3, t4, t5, t6, t7⟩ := HZr.out.2.cells
      obtain ⟨h0, h1, h2, h3, h4, h5, h6, h7⟩ := HZr.out.2.frozen
      have e2 := HZr.out.1.lt
      have e3 := HZr.out.2.lt
      clear HM
      go_region_with (fail)
      all_goals (go_wp2_with fail)
      all_goals
        clear x0 x1 x2 x3 x4 x5 x6 x7 y0 y1 y2 y3 y4 y5 y6 y7 z0 z1 z2 z3 z4 z5 z6 z7 t0 t1 t2 t3 t4 t5 t6 t7 g0 g1 g2 g3 g4 g5 g6 g7 h0 h1 h2 h3 h4 h5 h6 h7 e0 e1 e2 e3
        generalize hW : ((((((((((((((((wo.setCell ⟨w.heap.size + 1 + 1, 0, none⟩ (.int .i64 x.k)).setCell ⟨w.heap.size + 1 + 1, 1, none⟩ (.int .i64 x.s)).setCell ⟨w.heap.size + 1 + 1, 2, none⟩ (.int .i64 x.z)).setCell ⟨w.heap.size + 1 + 1, 3, none⟩ (.int .u64 x.zc)).setCell ⟨w.heap.size + 1 + 1, 4, none⟩ (.int .u64 x.ct)).setCell ⟨w.heap.size + 1 + 1, 5, none⟩ (.int .i64 x.sm)).setCell ⟨w.heap.size + 1 + 1, 6, none⟩ (.slice A1 x.P.length c1)).setCell ⟨w.heap.size + 1 + 1, 7, none⟩ (.slice B1 x.Q.length d1)).setCell ⟨w.heap.size + 1 + 1 + 1, 0, none⟩ (.int .i64 y.k)).setCell ⟨w.heap.size + 1 + 1 + 1, 1, none⟩ (.int .i64 y.s)).setCell ⟨w.heap.size + 1 + 1 + 1, 2, none⟩ (.int .i64 y.z)).setCell ⟨w.heap.size + 1 + 1 + 1, 3, none⟩ (.int .u64 y.zc)).setCell ⟨w.heap.size + 1 + 1 + 1, 4, none⟩ (.int .u64 y.ct)).setCell ⟨w.heap.size + 1 + 1 + 1, 5, none⟩ (.int .i64 y.sm)).setCell ⟨w.heap.size + 1 + 1 + 1, 6, none⟩ (.slice A2 y.P.length c2)).setCell ⟨w.heap.size + 1 + 1 + 1, 7, none⟩ (.slice B2 y.Q.length d2)) = w5
        have hW' : set8 (set8 wo (w.heap.size + 1 + 1) (.int .i64 x.k) (.int .i64 x.s) (.int .i64 x.z) (.int .u64 x.zc) (.int .u64 x.ct) (.int .i64 x.sm) (.slice A1 x.P.length c1) (.slice B1 x.Q.length d1)) (w.heap.size + 1 + 1 + 1) (.int .i64 y.k) (.int .i64 y.s) (.int .i64 y.z) (.int .u64 y.zc) (.int .u64 y.ct) (.int .i64 y.sm) (.slice A2 y.P.length c2) (.slice B2 y.Q.length d2) = w5 := hW
        rw [hW'] at HE HF
        obtain ⟨z0, z1, z2, z3, z4, z5, z6, z7⟩ := HF.out.1.cells
        obtain ⟨t0, t1, t2, t3, t4, t5, t6, t7⟩ := HF.out.2.cells
        refine bodyPost_ret (v := .tuple #[.agg #[.int .i64 x.k, .int .i64 x.s, .int .i64 x.z, .int .u64 x.zc, .int .u64 x.ct, .int .i64 x.sm, .slice A1 x.P.length c1, .slice B1 x.Q.length d1], .agg #[.int .i64 y.k, .int .i64 y.s, .int .i64 y.z, .int .u64 y.zc, .int .u64 y.ct, .int .i64 y.sm, .slice A2 y.P.length c2, .slice B2 y.Q.length d2], .int .i64 0]) (by simp [results, Tryz.results131, go_sem, z0, z1, z2, z3, z4, z5, z6, z7, t0, t1, t2, t3, t4, t5, t6, t7]) rfl HE.out.drew
    · have hz1 : (x.z != y.z) = true := by simpa using hz
      obtain ⟨m, hm⟩ : ∃ m, max x.z y.z = m := ⟨_, rfl⟩
      obtain ⟨x', hx'⟩ : ∃ x', swF x m = x' := ⟨_, rfl⟩
      obtain ⟨y', hy'⟩ : ∃ y', swF y m = y' := ⟨_, rfl⟩
      have hzm : zr m := by rw [← hm]; exact zr_max HOr.out.1.z HOr.out.2.z
      have HLess := Lib.hid (show (262144 - max x'.z y'.z).toNat * 2 + (if x'.z = y'.z then 0 else 1) < (262144 - max x.z y.z).toNat * 2 + (if x.z = y.z then 0 else 1) from by rw [← hx', ← hy']; exact ak_less HOr.out.1 HOr.out.2 hz hm)
      have HK2 := Lib.hid (show ∀ p q, Alk x' y' p q → Alk a0 b0 p q from fun p q h => HKr.out p q (.step hz (by rw [hm, hx', hy']; exact h)))
      have HO2 := Lib.hid (show Ok x' ∧ Ok y' from ⟨by rw [← hx']; exact sw_ok HOr.out.1 hzm, by rw [← hy']; exact sw_ok HOr.out.2 hzm⟩)
      have HW1 := Lib.hid (fun (W : World) (hW : Below wo.heap.size wo W) => (widen_good x.k x.s x.z x.zc x.ct x.sm m A1 B1 c1 d1 x.P x.Q W (HAr.out.1.1.below hW) (HAr.out.1.2.below hW) HOr.out.1 (by rw [← hm]; exact Int.le_max_left _ _) hzm).mono (fun e w' h => h.as (r' := x') hx' rfl))
      have HW2 := Lib.hid (fun (W : World) (hW : Below wo.heap.size wo W) => (widen_good y.k y.s y.z y.zc y.ct y.sm m A2 B2 c2 d2 y.P y.Q W (HAr.out.2.1.below hW) (HAr.out.2.2.below hW) HOr.out.2 (by rw [← hm]; exact Int.le_max_right _ _) hzm).mono (fun e w' h => h.as (r' := y') hy' rfl))
      have HMM := Lib.hid hm
      clear hz hm hx' hy' hzm
      go_wp2_with fail
      rw [HMM.out]
      refine (mboth_widen m x.k x.s x.z x.zc x.ct x.sm x.P x.Q y.k y.s y.z y.zc y.ct y.sm y.P y.Q x' y' A1 B1 A2 B2 c1 d1 c2 d2 wo HW1.out HW2.out).mono ?_
      rintro e w3 ⟨A3, B3, A4, B4, c3, d3, c4, d4, rfl, ⟨hA3, hB3, hA4, hB4⟩, hb3, nA3, nB3, nA4, nB4⟩
      have HX3 := Lib.hid (And.intro (And.intro (HXr.out.1.below hb3) (HXr.out.2.below hb3)) (And.intro (HZr.out.1.below hb3) (HZr.out.2.below hb3)))
      have HB3 := Lib.hid (HBr.out.trans (hb3.mono HBr.out.size))
      have HN3 := Lib.hid (And.intro (And.intro (nA3.mono HSr.out) (nB3.mono HSr.out)) (And.intro (nA4.mono HSr.out) (nB4.mono HSr.out)))
      have HS3 := Lib.hid (Nat.le_trans HSr.out hb3.size)
      have HA3 := Lib.hid (And.intro (And.intro hA3 hB3) (And.intro hA4 hB4))
      clear x0 x1 x2 x3 x4 x5 x6 x7 y0 y1 y2 y3 y4 y5 y6 y7 f0 f1 f2 f3 f4 f5 f6 f7 g0 g1 g2 g3 g4 g5 g6 g7 e0 e1 hb3 hA3 hB3 hA4 hB4 nA3 nB3 nA4 nB4
      obtain ⟨x0, x1, x2, x3, x4, x5, x6, x7⟩ := HX3.out.1.1.cells
      obtain ⟨f0, f1, f2, f3, f4, f5, f6, f7⟩ := HX3.out.1.1.frozen
      obtain ⟨y0, y1, y2, y3, y4, y5, y6, y7⟩ := HX3.out.1.2.cells
      obtain ⟨g0, g1, g2, g3, g4, g5, g6, g7⟩ := HX3.out.1.2.frozen
      have e0 := HX3.out.1.1.lt
      have e1 := HX3.out.1.2.lt
      simp only [hvA]
      go_wp2_with fail
      have HX4 := Lib.hid (And.intro (And.intro (Box.off8 (HX3.out.1.1.put8 (.int .i64 x'.k) (.int .i64 x'.s) (.int .i64 x'.z) (.int .u64 x'.zc) (.int .u64 x'.ct) (.int .i64 x'.sm) (.slice A3 x'.P.length c3) (.slice B3 x'.Q.length d3)) (show w.heap.size ≠ w.heap.size + 1 by omega) (.int .i64 y'.k) (.int .i64 y'.s) (.int .i64 y'.z) (.int .u64 y'.zc) (.int .u64 y'.ct) (.int .i64 y'.sm) (.slice A4 y'.P.length c4) (.slice B4 y'.Q.length d4)) (Box.put8 (HX3.out.1.2.off8 (show w.heap.size + 1 ≠ w.heap.size by omega) (.int .i64 x'.k) (.int .i64 x'.s) (.int .i64 x'.z) (.int .u64 x'.zc) (.int .u64 x'.ct) (.int .i64 x'.sm) (.slice A3 x'.P.length c3) (.slice B3 x'.Q.length d3)) (.int .i64 y'.k) (.int .i64 y'.s) (.int .i64 y'.z) (.int .u64 y'.zc) (.int .u64 y'.ct) (.int .i64 y'.sm) (.slice A4 y'.P.length c4) (.slice B4 y'.Q.length d4))) (And.intro (Box.off8 (HX3.out.2.1.off8 (show w.heap.size + 1 + 1 ≠ w.heap.size by omega) (.int .i64 x'.k) (.int .i64 x'.s) (.int .i64 x'.z) (.int .u64 x'.zc) (.int .u64 x'.ct) (.int .i64 x'.sm) (.slice A3 x'.P.length c3) (.slice B3 x'.Q.length d3)) (show w.heap.size + 1 + 1 ≠ w.heap.size + 1 by omega) (.int .i64 y'.k) (.int .i64 y'.s) (.int .i64 y'.z) (.int .u64 y'.zc) (.int .u64 y'.ct) (.int .i64 y'.sm) (.slice A4 y'.P.length c4) (.slice B4 y'.Q.length d4)) (Box.off8 (HX3.out.2.2.off8 (show w.heap.size + 1 + 1 + 1 ≠ w.heap.size by omega) (.int .i64 x'.k) (.int .i64 x'.s) (.int .i64 x'.z) (.int .u64 x'.zc) (.int .u64 x'.ct) (.int .i64 x'.sm) (.slice A3 x'.P.length c3) (.slice B3 x'.Q.length d3)) (show w.heap.size + 1 + 1 + 1 ≠ w.heap.size + 1 by omega) (.int .i64 y'.k) (.int .i64 y'.s) (.int .i64 y'.z) (.int .u64 y'.zc) (.int .u64 y'.ct) (.int .i64 y'.sm) (.slice A4 y'.P.length c4) (.slice B4 y'.Q.length d4))))
      have HB4 := Lib.hid (below_set8 (below_set8 HB3.out (by omega : w.heap.size ≤ w.heap.size) (.int .i64 x'.k) (.int .i64 x'.s) (.int .i64 x'.z) (.int .u64 x'.zc) (.int .u64 x'.ct) (.int .i64 x'.sm) (.slice A3 x'.P.length c3) (.slice B3 x'.Q.length d3)) (by omega : w.heap.size ≤ w.heap.size + 1) (.int .i64 y'.k) (.int .i64 y'.s) (.int .i64 y'.z) (.int .u64 y'.zc) (.int .u64 y'.ct) (.int .i64 y'.sm) (.slice A4 y'.P.length c4) (.slice B4 y'.Q.length d4))
      have HA4 := Lib.hid (And.intro (And.intro ((HA3.out.1.1.set8 (HN3.out.1.1.ne HL.out.1.1) (.int .i64 x'.k) (.int .i64 x'.s) (.int .i64 x'.z) (.int .u64 x'.zc) (.int .u64 x'.ct) (.int .i64 x'.sm) (.slice A3 x'.P.length c3) (.slice B3 x'.Q.length d3)).set8 (HN3.out.1.1.ne HL.out.1.2) (.int .i64 y'.k) (.int .i64 y'.s) (.int .i64 y'.z) (.int .u64 y'.zc) (.int .u64 y'.ct) (.int .i64 y'.sm) (.slice A4 y'.P.length c4) (.slice B4 y'.Q.length d4)) ((HA3.out.1.2.set8 (HN3.out.1.2.ne HL.out.1.1) (.int .i64 x'.k) (.int .i64 x'.s) (.int .i64 x'.z) (.int .u64 x'.zc) (.int .u64 x'.ct) (.int .i64 x'.sm) (.slice A3 x'.P.length c3) (.slice B3 x'.Q.length d3)).set8 (HN3.out.1.2.ne HL.out.1.2) (.int .i64 y'.k) (.int .i64 y'.s) (.int .i64 y'.z) (.int .u64 y'.zc) (.int .u64 y'.ct) (.int .i64 y'.sm) (.slice A4 y'.P.length c4) (.slice B4 y'.Q.length d4))) (And.intro ((HA3.out.2.1.set8 (HN3.out.2.1.ne HL.out.1.1) (.int .i64 x'.k) (.int .i64 x'.s) (.int .i64 x'.z) (.int .u64 x'.zc) (.int .u64 x'.ct) (.int .i64 x'.sm) (.slice A3 x'.P.length c3) (.slice B3 x'.Q.length d3)).set8 (HN3.out.2.1.ne HL.out.1.2) (.int .i64 y'.k) (.int .i64 y'.s) (.int .i64 y'.z) (.int .u64 y'.zc) (.int .u64 y'.ct) (.int .i64 y'.sm) (.slice A4 y'.P.length c4) (.slice B4 y'.Q.length d4)) ((HA3.out.2.2.set8 (HN3.out.2.2.ne HL.out.1.1) (.int .i64 x'.k) (.int .i64 x'.s) (.int .i64 x'.z) (.int .u64 x'.zc) (.int .u64 x'.ct) (.int .i64 x'.sm) (.slice A3 x'.P.length c3) (.slice B3 x'.Q.length d3)).set8 (HN3.out.2.2.ne HL.out.1.2) (.int .i64 y'.k) (.int .i64 y'.s) (.int .i64 y'.z) (.int .u64 y'.zc) (.int .u64 y'.ct) (.int .i64 y'.sm) (.slice A4 y'.P.length c4) (.slice B4 y'.Q.length d4))))
      have HSZ4 := Lib.hid (show w0.heap.size ≤ (set8 (set8 w3 (w.heap.size) (.int .i64 x'.k) (.int .i64 x'.s) (.int .i64 x'.z) (.int .u64 x'.zc) (.int .u64 x'.ct) (.int .i64 x'.sm) (.slice A3 x'.P.length c3) (.slice B3 x'.Q.length d3)) (w.heap.size + 1) (.int .i64 y'.k) (.int .i64 y'.s) (.int .i64 y'.z) (.int .u64 y'.zc) (.int .u64 y'.ct) (.int .i64 y'.sm) (.slice A4 y'.P.length c4) (.slice B4 y'.Q.length d4)).heap.size by rw [size_set8, size_set8]; exact HS3.out)
      clear x0 x1 x2 x3 x4 x5 x6 x7 y0 y1 y2 y3 y4 y5 y6 y7 f0 f1 f2 f3 f4 f5 f6 f7 g0 g1 g2 g3 g4 g5 g6 g7 e0 e1
      generalize hW : ((((((((((((((((w3.setCell ⟨w.heap.size, 0, none⟩ (.int .i64 x'.k)).setCell ⟨w.heap.size, 1, none⟩ (.int .i64 x'.s)).setCell ⟨w.heap.size, 2, none⟩ (.int .i64 x'.z)).setCell ⟨w.heap.size, 3, none⟩ (.int .u64 x'.zc)).setCell ⟨w.heap.size, 4, none⟩ (.int .u64 x'.ct)).setCell ⟨w.heap.size, 5, none⟩ (.int .i64 x'.sm)).setCell ⟨w.heap.size, 6, none⟩ (.slice A3 x'.P.length c3)).setCell ⟨w.heap.size, 7, none⟩ (.slice B3 x'.Q.length d3)).setCell ⟨w.heap.size + 1, 0, none⟩ (.int .i64 y'.k)).setCell ⟨w.heap.size + 1, 1, none⟩ (.int .i64 y'.s)).setCell ⟨w.heap.size + 1, 2, none⟩ (.int .i64 y'.z)).setCell ⟨w.heap.size + 1, 3, none⟩ (.int .u64 y'.zc)).setCell ⟨w.heap.size + 1, 4, none⟩ (.int .u64 y'.ct)).setCell ⟨w.heap.size + 1, 5, none⟩ (.int .i64 y'.sm)).setCell ⟨w.heap.size + 1, 6, none⟩ (.slice A4 y'.P.length c4)).setCell ⟨w.heap.size + 1, 7, none⟩ (.slice B4 y'.Q.length d4)) = w4
      have hW' : set8 (set8 w3 (w.heap.size) (.int .i64 x'.k) (.int .i64 x'.s) (.int .i64 x'.z) (.int .u64 x'.zc) (.int .u64 x'.ct) (.int .i64 x'.sm) (.slice A3 x'.P.length c3) (.slice B3 x'.Q.length d3)) (w.heap.size + 1) (.int .i64 y'.k) (.int .i64 y'.s) (.int .i64 y'.z) (.int .u64 y'.zc) (.int .u64 y'.ct) (.int .i64 y'.sm) (.slice A4 y'.P.length c4) (.slice B4 y'.Q.length d4) = w4 := hW
      rw [hW'] at HX4 HB4 HA4 HSZ4
      clear hW hW' HX3 HB3 HA3 HS3
      have HR4 := Lib.hid (show AkRel w w0 a0 b0 w4 from ⟨x', y', A3, B3, A4, B4, c3, d3, c4, d4, HX4.out.1, HX4.out.2, HA4.out, HN3.out, HO2.out, HK2.out, HSZ4.out, HB4.out⟩)
      have HM4 := Lib.hid (show zAt w4 w.heap.size = x'.z ∧ zAt w4 (w.heap.size + 1) = y'.z from ⟨by unfold zAt; rw [HX4.out.1.1.cells.2.2.1]; rfl, by unfold zAt; rw [HX4.out.1.2.cells.2.2.1]; rfl⟩)
      go_roundw
      case rel => exact ⟨rfl, HR4⟩
      case measure =>
        have h1 := HM.out
        have h2 := HM4.out
        rw [h1.1, h1.2, h2.1, h2.2]
        exact HLess.out
end Go.Proofs.YtakomfnajeolcaaGreatDoor
