/- Add. -/
import Derived.Test.YtbibhjcmdehdbaaMdN
import Derived.Deep.RegionHeld3
namespace Go.Proofs.Ytbibhjcmdehdbaa
open Go.RowKit Go.Sort Go.Maps
set_option linter.unusedVariables false

theorem Alk.oks {a0 b0 x y : HV} (h : Alk a0 b0 x y) {a b : HV} (oa : Ok a) (ob : Ok b) (ha : downF a (min a.s b.s) = a0) (hb : downF b (min a.s b.s) = b0) : (Ok x ∧ Ok y) ∧ x.s = min a.s b.s ∧ y.s = min a.s b.s ∧ x.z = y.z ∧ Cut a0 x ∧ Cut b0 y := by
  have ht : rightB (min a.s b.s) = true := by
    have h1 := right_yes oa.s
    have h2 := right_yes ob.s
    exact right_iff.2 (by omega)
  have o1 : Ok a0 := by rw [← ha]; exact down_ok oa ht (Int.min_le_left _ _)
  have o2 : Ok b0 := by rw [← hb]; exact down_ok ob ht (Int.min_le_right _ _)
  obtain ⟨c1, c2, o3, o4, e⟩ := h.cut o1 o2
  refine ⟨⟨o3, o4⟩, ?_, ?_, e, c1, c2⟩
  · rw [c1.same.2.1, ← ha, down_s]
  · rw [c2.same.2.1, ← hb, down_s]
theorem addint_two (b cap : Nat) (x y : Int) (w : World) (hx : w.cell? ⟨b, 0, none⟩ = some (.int .i64 x)) (hy : w.cell? ⟨b, 1, none⟩ = some (.int .i64 y)) (hx1 : inI64 x) (hy1 : inI64 y) (s : Int) (hs : x + y = s) :
    Calls Try.prog 44 #[.slice (some ⟨b, 0, none⟩) 2 cap] w fun e w' => e = .returned (.tuple #[.int .i64 (intV s), .int .i64 (intE s)]) ∧ w = w' := by
  have := addint_row b 0 2 cap (fun i => if i = 0 then x else y) w ⟨by omega, fun i hi => by
    rcases (show i = 0 ∨ i = 1 by omega) with rfl | rfl
    · exact ⟨by simpa using hx, by simpa using hx1.1, by simpa using hx1.2⟩
    · exact ⟨by simpa using hy, by simpa using hy1.1, by simpa using hy1.2⟩⟩
  have e : sumTo (fun i => if i = 0 then x else y) 2 = s := by simp [sumTo]; omega
  rw [e] at this
  exact this
/-- what is handed to Make when two alike histograms are added -/
def mAddV (x y : HV) : HV := { x with k := if y.k = 0 then x.k else y.k, zc := x.zc + y.zc, sm := x.sm + y.sm }
def mAddE (x y : HV) : Int := if 18446744073709551615 < x.zc + y.zc then 5 else if inI64 (x.sm + y.sm) then mkE (mAddV x y) (x.P ++ y.P) (x.Q ++ y.Q) else 5
def mAddO (x y : HV) : HV := if mAddE x y = 0 then mkR (mAddV x y) (x.P ++ y.P) (x.Q ++ y.Q) else zeroV
def AddT (w w0 : World) (x y : HV) (K S M : Int) (A1 B1 A2 B2 : Option Addr) (c1 d1 c2 d2 : Nat) (W : World) : Prop :=
  (Box W w.heap.size (.int .i64 K) (.int .i64 x.s) (.int .i64 x.z) (.int .u64 S) (.int .u64 x.ct) (.int .i64 M) (.slice A1 x.P.length c1) (.slice B1 x.Q.length d1) ∧ Box W (w.heap.size + 1) (.int .i64 y.k) (.int .i64 y.s) (.int .i64 y.z) (.int .u64 y.zc) (.int .u64 y.ct) (.int .i64 y.sm) (.slice A2 y.P.length c2) (.slice B2 y.Q.length d2)) ∧ (∃ v0 v1 v2 v3 v4 v5 v6 v7, Box W (w.heap.size + 1 + 1) v0 v1 v2 v3 v4 v5 v6 v7) ∧ ((Bk W A1 x.P ∧ Bk W B1 x.Q) ∧ (Bk W A2 y.P ∧ Bk W B2 y.Q)) ∧ w0.heap.size ≤ W.heap.size ∧ Below w.heap.size w W
theorem AddT.below {w w0 W W' : World} {x y : HV} {K S M : Int} {A1 B1 A2 B2 : Option Addr} {c1 d1 c2 d2 : Nat} (hb : Below W.heap.size W W') (h : AddT w w0 x y K S M A1 B1 A2 B2 c1 d1 c2 d2 W) : AddT w w0 x y K S M A1 B1 A2 B2 c1 d1 c2 d2 W' := by
  obtain ⟨⟨a, b⟩, ⟨v0, v1, v2, v3, v4, v5, v6, v7, c⟩, ⟨⟨d, e⟩, ⟨f, g⟩⟩, i, j⟩ := h
  exact ⟨⟨a.below hb, b.below hb⟩, ⟨v0, v1, v2, v3, v4, v5, v6, v7, c.below hb⟩, ⟨⟨d.below hb, e.below hb⟩, ⟨f.below hb, g.below hb⟩⟩, Nat.le_trans i hb.size, j.trans (hb.mono j.size)⟩
theorem AddT.store {w w0 W : World} {x y : HV} {K S M : Int} {A1 B1 A2 B2 : Option Addr} {c1 d1 c2 d2 : Nat} (n : (NewA w0 A1 ∧ NewA w0 B1) ∧ (NewA w0 A2 ∧ NewA w0 B2)) (hl : w.heap.size + 1 + 1 < w0.heap.size) (u0 u1 u2 u3 u4 u5 u6 u7 : Value) (h : AddT w w0 x y K S M A1 B1 A2 B2 c1 d1 c2 d2 W) : AddT w w0 x y K S M A1 B1 A2 B2 c1 d1 c2 d2 (set8 W (w.heap.size + 1 + 1) u0 u1 u2 u3 u4 u5 u6 u7) := by
  obtain ⟨⟨a, b⟩, ⟨v0, v1, v2, v3, v4, v5, v6, v7, c⟩, ⟨⟨d, e⟩, ⟨f, g⟩⟩, i, j⟩ := h
  exact ⟨⟨a.off8 (by omega) _ _ _ _ _ _ _ _, b.off8 (by omega) _ _ _ _ _ _ _ _⟩, ⟨_, _, _, _, _, _, _, _, c.put8 _ _ _ _ _ _ _ _⟩, ⟨⟨d.set8 (n.1.1.ne hl) _ _ _ _ _ _ _ _, e.set8 (n.1.2.ne hl) _ _ _ _ _ _ _ _⟩, ⟨f.set8 (n.2.1.ne hl) _ _ _ _ _ _ _ _, g.set8 (n.2.2.ne hl) _ _ _ _ _ _ _ _⟩⟩, by rw [size_set8]; exact i, below_set8 j (by omega) _ _ _ _ _ _ _ _⟩
theorem AddT.storeC {w w0 W : World} {x y : HV} {K S M : Int} {A1 B1 A2 B2 : Option Addr} {c1 d1 c2 d2 : Nat} (n : (NewA w0 A1 ∧ NewA w0 B1) ∧ (NewA w0 A2 ∧ NewA w0 B2)) (hl : w.heap.size + 1 + 1 < w0.heap.size) (u0 u1 u2 u3 u4 u5 u6 u7 : Value) (h : AddT w w0 x y K S M A1 B1 A2 B2 c1 d1 c2 d2 W) : AddT w w0 x y K S M A1 B1 A2 B2 c1 d1 c2 d2 ((((((((W.setCell ⟨w.heap.size + 1 + 1, 0, none⟩ u0).setCell ⟨w.heap.size + 1 + 1, 1, none⟩ u1).setCell ⟨w.heap.size + 1 + 1, 2, none⟩ u2).setCell ⟨w.heap.size + 1 + 1, 3, none⟩ u3).setCell ⟨w.heap.size + 1 + 1, 4, none⟩ u4).setCell ⟨w.heap.size + 1 + 1, 5, none⟩ u5).setCell ⟨w.heap.size + 1 + 1, 6, none⟩ u6).setCell ⟨w.heap.size + 1 + 1, 7, none⟩ u7) := AddT.store n hl u0 u1 u2 u3 u4 u5 u6 u7 h
theorem AddT.cells {w w0 W : World} {x y : HV} {K S M : Int} {A1 B1 A2 B2 : Option Addr} {c1 d1 c2 d2 : Nat} (h : AddT w w0 x y K S M A1 B1 A2 B2 c1 d1 c2 d2 W) :
    (W.cell? ⟨w.heap.size, 0, none⟩ = some (.int .i64 K) ∧ W.cell? ⟨w.heap.size, 1, none⟩ = some (.int .i64 x.s) ∧ W.cell? ⟨w.heap.size, 2, none⟩ = some (.int .i64 x.z) ∧ W.cell? ⟨w.heap.size, 3, none⟩ = some (.int .u64 S) ∧ W.cell? ⟨w.heap.size, 4, none⟩ = some (.int .u64 x.ct) ∧ W.cell? ⟨w.heap.size, 5, none⟩ = some (.int .i64 M) ∧ W.cell? ⟨w.heap.size, 6, none⟩ = some (.slice A1 x.P.length c1) ∧ W.cell? ⟨w.heap.size, 7, none⟩ = some (.slice B1 x.Q.length d1)) ∧ (W.cell? ⟨w.heap.size + 1, 6, none⟩ = some (.slice A2 y.P.length c2) ∧ W.cell? ⟨w.heap.size + 1, 7, none⟩ = some (.slice B2 y.Q.length d2)) ∧ AddT w w0 x y K S M A1 B1 A2 B2 c1 d1 c2 d2 W :=
  ⟨h.1.1.cells, ⟨h.1.2.cells.2.2.2.2.2.2.1, h.1.2.cells.2.2.2.2.2.2.2⟩, h⟩
def AddOut (w : World) (a0 b0 : HV) (e : Ending) (w' : World) : Prop := ∃ x y, Alk a0 b0 x y ∧ RetH w (mAddO x y) (mAddE x y) e w'
set_option maxHeartbeats 3000000 in
set_option maxRecDepth 100000 in
theorem add_any (DC : DownC) (k s z zc ct sm : Int) (P Q : List (Int × Int)) (k' s' z' zc' ct' sm' : Int) (P' Q' : List (Int × Int)) (A B A' B' : Option Addr) (c d c' d' : Nat) (w : World) (hP : Bk w A P) (hQ : Bk w B Q) (hP' : Bk w A' P') (hQ' : Bk w B' Q')
    (o : Ok ⟨k, s, z, zc, ct, sm, P, Q⟩) (o' : Ok ⟨k', s', z', zc', ct', sm', P', Q'⟩) (a0 b0 : HV) (ha0 : downF ⟨k, s, z, zc, ct, sm, P, Q⟩ (min s s') = a0) (hb0' : downF ⟨k', s', z', zc', ct', sm', P', Q'⟩ (min s s') = b0) :
    Calls Try.prog 14 #[.agg #[.int .i64 k, .int .i64 s, .int .i64 z, .int .u64 zc, .int .u64 ct, .int .i64 sm, .slice A P.length c, .slice B Q.length d], .agg #[.int .i64 k', .int .i64 s', .int .i64 z', .int .u64 zc', .int .u64 ct', .int .i64 sm', .slice A' P'.length c', .slice B' Q'.length d']] w (AddOut w a0 b0) := by
  have HP := Lib.hid (And.intro (And.intro hP hQ) (And.intro hP' hQ'))
  have HO := Lib.hid (And.intro o o')
  have bx0 := ((Box.new w (.int .i64 k) (.int .i64 s) (.int .i64 z) (.int .u64 zc) (.int .u64 ct) (.int .i64 sm) (.slice A P.length c) (.slice B Q.length d)).alloc (.cells #[.int .i64 k', .int .i64 s', .int .i64 z', .int .u64 zc', .int .u64 ct', .int .i64 sm', .slice A' P'.length c', .slice B' Q'.length d'] 25)).alloc (.cells #[.int .i64 0, .int .i64 0, .int .i64 0, .int .u64 0, .int .u64 0, .int .i64 0, .slice none 0 0, .slice none 0 0] 25)
  have bx1 := (Box.newAt (w.alloc (.cells #[.int .i64 k, .int .i64 s, .int .i64 z, .int .u64 zc, .int .u64 ct, .int .i64 sm, .slice A P.length c, .slice B Q.length d] 25)) (w.heap.size + 1) (by simp) (.int .i64 k') (.int .i64 s') (.int .i64 z') (.int .u64 zc') (.int .u64 ct') (.int .i64 sm') (.slice A' P'.length c') (.slice B' Q'.length d')).alloc (.cells #[.int .i64 0, .int .i64 0, .int .i64 0, .int .u64 0, .int .u64 0, .int .i64 0, .slice none 0 0, .slice none 0 0] 25)
  have bx2 := Box.newAt ((w.alloc (.cells #[.int .i64 k, .int .i64 s, .int .i64 z, .int .u64 zc, .int .u64 ct, .int .i64 sm, .slice A P.length c, .slice B Q.length d] 25)).alloc (.cells #[.int .i64 k', .int .i64 s', .int .i64 z', .int .u64 zc', .int .u64 ct', .int .i64 sm', .slice A' P'.length c', .slice B' Q'.length d'] 25)) (w.heap.size + 1 + 1) (by simp) (.int .i64 0) (.int .i64 0) (.int .i64 0) (.int .u64 0) (.int .u64 0) (.int .i64 0) (.slice none 0 0) (.slice none 0 0)
  have hb := (((Below.refl w.heap.size w).alloc (Nat.le_refl _) (.cells #[.int .i64 k, .int .i64 s, .int .i64 z, .int .u64 zc, .int .u64 ct, .int .i64 sm, .slice A P.length c, .slice B Q.length d] 25)).alloc (by simp) (.cells #[.int .i64 k', .int .i64 s', .int .i64 z', .int .u64 zc', .int .u64 ct', .int .i64 sm', .slice A' P'.length c', .slice B' Q'.length d'] 25)).alloc (by simp; omega) (.cells #[.int .i64 0, .int .i64 0, .int .i64 0, .int .u64 0, .int .u64 0, .int .i64 0, .slice none 0 0, .slice none 0 0] 25)
  have HX := Lib.hid (And.intro (And.intro bx0 bx1) bx2)
  have HB := Lib.hid hb
  have HD := Lib.hid (And.intro ha0 hb0')
  clear hP hQ hP' hQ' o o' bx0 bx1 bx2 hb ha0 hb0'
  go_enter Try.func14, Try.ntmps14
  go_wp2_with fail
  generalize (((w.alloc (.cells #[.int .i64 k, .int .i64 s, .int .i64 z, .int .u64 zc, .int .u64 ct, .int .i64 sm, .slice A P.length c, .slice B Q.length d] 25)).alloc (.cells #[.int .i64 k', .int .i64 s', .int .i64 z', .int .u64 zc', .int .u64 ct', .int .i64 sm', .slice A' P'.length c', .slice B' Q'.length d'] 25)).alloc (.cells #[.int .i64 0, .int .i64 0, .int .i64 0, .int .u64 0, .int .u64 0, .int .i64 0, .slice none 0 0, .slice none 0 0] 25)) = w0 at *
  refine (alike_any DC k s z zc ct sm P Q k' s' z' zc' ct' sm' P' Q' A B A' B' c d c' d' w0 (HP.out.1.1.below HB.out) (HP.out.1.2.below HB.out) (HP.out.2.1.below HB.out) (HP.out.2.2.below HB.out) HO.out.1 HO.out.2 a0 b0 HD.out.1 HD.out.2).mono ?_
  rintro e w1 ⟨x, y, hK, A1, B1, A2, B2, c1, d1, c2, d2, rfl, ⟨hA1, hB1, hA2, hB2⟩, hb1, nA1, nB1, nA2, nB2⟩
  have hl0 := HX.out.1.1.lt
  have hl1 := HX.out.1.2.lt
  have hl2 := HX.out.2.lt
  have HX1 := Lib.hid (And.intro (And.intro (HX.out.1.1.below hb1) (HX.out.1.2.below hb1)) (HX.out.2.below hb1))
  have HB1 := Lib.hid (HB.out.trans (hb1.mono HB.out.size))
  have HS1 := Lib.hid hb1.size
  have HN := Lib.hid (And.intro (And.intro nA1 nB1) (And.intro nA2 nB2))
  have HL := Lib.hid (And.intro hl0 (And.intro hl1 hl2))
  have HA1 := Lib.hid (And.intro (And.intro hA1 hB1) (And.intro hA2 hB2))
  have HKK := Lib.hid hK
  obtain ⟨x0, x1, x2, x3, x4, x5, x6, x7⟩ := HX1.out.1.1.cells
  obtain ⟨f0, f1, f2, f3, f4, f5, f6, f7⟩ := HX1.out.1.1.frozen
  obtain ⟨y0, y1, y2, y3, y4, y5, y6, y7⟩ := HX1.out.1.2.cells
  obtain ⟨g0, g1, g2, g3, g4, g5, g6, g7⟩ := HX1.out.1.2.frozen
  have e0 := HX1.out.1.1.lt
  have e1 := HX1.out.1.2.lt
  have OXY := Lib.hid (HKK.out.oks HO.out.1 HO.out.2 HD.out.1 HD.out.2)
  clear hb1 hA1 hB1 hA2 hB2 nA1 nB1 nA2 nB2 hl0 hl1 hl2 hK
  simp only [hvA]
  go_upto_region 2 with fail
  have HX2 := Lib.hid (And.intro (And.intro (Box.off8 (HX1.out.1.1.put8 (.int .i64 x.k) (.int .i64 x.s) (.int .i64 x.z) (.int .u64 x.zc) (.int .u64 x.ct) (.int .i64 x.sm) (.slice A1 x.P.length c1) (.slice B1 x.Q.length d1)) (show w.heap.size ≠ w.heap.size + 1 by omega) (.int .i64 y.k) (.int .i64 y.s) (.int .i64 y.z) (.int .u64 y.zc) (.int .u64 y.ct) (.int .i64 y.sm) (.slice A2 y.P.length c2) (.slice B2 y.Q.length d2)) (Box.put8 (HX1.out.1.2.off8 (show w.heap.size + 1 ≠ w.heap.size by omega) (.int .i64 x.k) (.int .i64 x.s) (.int .i64 x.z) (.int .u64 x.zc) (.int .u64 x.ct) (.int .i64 x.sm) (.slice A1 x.P.length c1) (.slice B1 x.Q.length d1)) (.int .i64 y.k) (.int .i64 y.s) (.int .i64 y.z) (.int .u64 y.zc) (.int .u64 y.ct) (.int .i64 y.sm) (.slice A2 y.P.length c2) (.slice B2 y.Q.length d2))) (Box.off8 (HX1.out.2.off8 (show w.heap.size + 1 + 1 ≠ w.heap.size by omega) (.int .i64 x.k) (.int .i64 x.s) (.int .i64 x.z) (.int .u64 x.zc) (.int .u64 x.ct) (.int .i64 x.sm) (.slice A1 x.P.length c1) (.slice B1 x.Q.length d1)) (show w.heap.size + 1 + 1 ≠ w.heap.size + 1 by omega) (.int .i64 y.k) (.int .i64 y.s) (.int .i64 y.z) (.int .u64 y.zc) (.int .u64 y.ct) (.int .i64 y.sm) (.slice A2 y.P.length c2) (.slice B2 y.Q.length d2)))
  have HB2 := Lib.hid (below_set8 (below_set8 HB1.out (by omega : w.heap.size ≤ w.heap.size) (.int .i64 x.k) (.int .i64 x.s) (.int .i64 x.z) (.int .u64 x.zc) (.int .u64 x.ct) (.int .i64 x.sm) (.slice A1 x.P.length c1) (.slice B1 x.Q.length d1)) (by omega : w.heap.size ≤ w.heap.size + 1) (.int .i64 y.k) (.int .i64 y.s) (.int .i64 y.z) (.int .u64 y.zc) (.int .u64 y.ct) (.int .i64 y.sm) (.slice A2 y.P.length c2) (.slice B2 y.Q.length d2))
  have HA2 := Lib.hid (And.intro (And.intro ((HA1.out.1.1.set8 (HN.out.1.1.ne HL.out.1) (.int .i64 x.k) (.int .i64 x.s) (.int .i64 x.z) (.int .u64 x.zc) (.int .u64 x.ct) (.int .i64 x.sm) (.slice A1 x.P.length c1) (.slice B1 x.Q.length d1)).set8 (HN.out.1.1.ne HL.out.2.1) (.int .i64 y.k) (.int .i64 y.s) (.int .i64 y.z) (.int .u64 y.zc) (.int .u64 y.ct) (.int .i64 y.sm) (.slice A2 y.P.length c2) (.slice B2 y.Q.length d2)) ((HA1.out.1.2.set8 (HN.out.1.2.ne HL.out.1) (.int .i64 x.k) (.int .i64 x.s) (.int .i64 x.z) (.int .u64 x.zc) (.int .u64 x.ct) (.int .i64 x.sm) (.slice A1 x.P.length c1) (.slice B1 x.Q.length d1)).set8 (HN.out.1.2.ne HL.out.2.1) (.int .i64 y.k) (.int .i64 y.s) (.int .i64 y.z) (.int .u64 y.zc) (.int .u64 y.ct) (.int .i64 y.sm) (.slice A2 y.P.length c2) (.slice B2 y.Q.length d2))) (And.intro ((HA1.out.2.1.set8 (HN.out.2.1.ne HL.out.1) (.int .i64 x.k) (.int .i64 x.s) (.int .i64 x.z) (.int .u64 x.zc) (.int .u64 x.ct) (.int .i64 x.sm) (.slice A1 x.P.length c1) (.slice B1 x.Q.length d1)).set8 (HN.out.2.1.ne HL.out.2.1) (.int .i64 y.k) (.int .i64 y.s) (.int .i64 y.z) (.int .u64 y.zc) (.int .u64 y.ct) (.int .i64 y.sm) (.slice A2 y.P.length c2) (.slice B2 y.Q.length d2)) ((HA1.out.2.2.set8 (HN.out.2.2.ne HL.out.1) (.int .i64 x.k) (.int .i64 x.s) (.int .i64 x.z) (.int .u64 x.zc) (.int .u64 x.ct) (.int .i64 x.sm) (.slice A1 x.P.length c1) (.slice B1 x.Q.length d1)).set8 (HN.out.2.2.ne HL.out.2.1) (.int .i64 y.k) (.int .i64 y.s) (.int .i64 y.z) (.int .u64 y.zc) (.int .u64 y.ct) (.int .i64 y.sm) (.slice A2 y.P.length c2) (.slice B2 y.Q.length d2))))
  have HSZ := Lib.hid (show w0.heap.size ≤ (set8 (set8 w1 (w.heap.size) (.int .i64 x.k) (.int .i64 x.s) (.int .i64 x.z) (.int .u64 x.zc) (.int .u64 x.ct) (.int .i64 x.sm) (.slice A1 x.P.length c1) (.slice B1 x.Q.length d1)) (w.heap.size + 1) (.int .i64 y.k) (.int .i64 y.s) (.int .i64 y.z) (.int .u64 y.zc) (.int .u64 y.ct) (.int .i64 y.sm) (.slice A2 y.P.length c2) (.slice B2 y.Q.length d2)).heap.size by rw [size_set8, size_set8]; exact HS1.out)
  clear x0 x1 x2 x3 x4 x5 x6 x7 y0 y1 y2 y3 y4 y5 y6 y7 f0 f1 f2 f3 f4 f5 f6 f7 g0 g1 g2 g3 g4 g5 g6 g7 e0 e1
  generalize hW : ((((((((((((((((w1.setCell ⟨w.heap.size, 0, none⟩ (.int .i64 x.k)).setCell ⟨w.heap.size, 1, none⟩ (.int .i64 x.s)).setCell ⟨w.heap.size, 2, none⟩ (.int .i64 x.z)).setCell ⟨w.heap.size, 3, none⟩ (.int .u64 x.zc)).setCell ⟨w.heap.size, 4, none⟩ (.int .u64 x.ct)).setCell ⟨w.heap.size, 5, none⟩ (.int .i64 x.sm)).setCell ⟨w.heap.size, 6, none⟩ (.slice A1 x.P.length c1)).setCell ⟨w.heap.size, 7, none⟩ (.slice B1 x.Q.length d1)).setCell ⟨w.heap.size + 1, 0, none⟩ (.int .i64 y.k)).setCell ⟨w.heap.size + 1, 1, none⟩ (.int .i64 y.s)).setCell ⟨w.heap.size + 1, 2, none⟩ (.int .i64 y.z)).setCell ⟨w.heap.size + 1, 3, none⟩ (.int .u64 y.zc)).setCell ⟨w.heap.size + 1, 4, none⟩ (.int .u64 y.ct)).setCell ⟨w.heap.size + 1, 5, none⟩ (.int .i64 y.sm)).setCell ⟨w.heap.size + 1, 6, none⟩ (.slice A2 y.P.length c2)).setCell ⟨w.heap.size + 1, 7, none⟩ (.slice B2 y.Q.length d2)) = w2
  have hW' : set8 (set8 w1 (w.heap.size) (.int .i64 x.k) (.int .i64 x.s) (.int .i64 x.z) (.int .u64 x.zc) (.int .u64 x.ct) (.int .i64 x.sm) (.slice A1 x.P.length c1) (.slice B1 x.Q.length d1)) (w.heap.size + 1) (.int .i64 y.k) (.int .i64 y.s) (.int .i64 y.z) (.int .u64 y.zc) (.int .u64 y.ct) (.int .i64 y.sm) (.slice A2 y.P.length c2) (.slice B2 y.Q.length d2) = w2 := hW
  rw [hW'] at HX2 HB2 HA2 HSZ
  clear hW hW' HX1 HB1 HA1
  obtain ⟨x0, x1, x2, x3, x4, x5, x6, x7⟩ := HX2.out.1.1.cells
  obtain ⟨f0, f1, f2, f3, f4, f5, f6, f7⟩ := HX2.out.1.1.frozen
  obtain ⟨y0, y1, y2, y3, y4, y5, y6, y7⟩ := HX2.out.1.2.cells
  obtain ⟨g0, g1, g2, g3, g4, g5, g6, g7⟩ := HX2.out.1.2.frozen
  have e0 := HX2.out.1.1.lt
  have e1 := HX2.out.1.2.lt
  go_wp2_with fail
  have q0 := OXY.out.1.1.zc
  have q1 := OXY.out.1.1.toGood.z1
  have q2 := OXY.out.1.2.zc
  have q3 := OXY.out.1.2.toGood.z1
  have HB3 := Lib.hid (HB2.out.alloc HB2.out.size (.cells #[.int .u64 x.zc, .int .u64 y.zc] 22))
  have HX3 := Lib.hid (And.intro (And.intro (HX2.out.1.1.alloc (.cells #[.int .u64 x.zc, .int .u64 y.zc] 22)) (HX2.out.1.2.alloc (.cells #[.int .u64 x.zc, .int .u64 y.zc] 22))) (HX2.out.2.alloc (.cells #[.int .u64 x.zc, .int .u64 y.zc] 22)))
  have hwu : Below w2.heap.size w2 (w2.alloc (.cells #[.int .u64 x.zc, .int .u64 y.zc] 22)) := (Below.refl _ _).alloc (Nat.le_refl _) _
  have HA3 := Lib.hid (And.intro (And.intro (HA2.out.1.1.below hwu) (HA2.out.1.2.below hwu)) (And.intro (HA2.out.2.1.below hwu) (HA2.out.2.2.below hwu)))
  have HZ3 := Lib.hid (Nat.le_trans HSZ.out hwu.size)
  have u0 : (w2.alloc (.cells #[.int .u64 x.zc, .int .u64 y.zc] 22)).cell? ⟨w2.heap.size, 0, none⟩ = some (.int .u64 x.zc) := by simp [go_sem]
  have u1 : (w2.alloc (.cells #[.int .u64 x.zc, .int .u64 y.zc] 22)).cell? ⟨w2.heap.size, 1, none⟩ = some (.int .u64 y.zc) := by simp [go_sem]
  obtain ⟨gu, hgu⟩ : ∃ g, w2.heap.size = g := ⟨_, rfl⟩
  rw [hgu] at u0 u1 ⊢
  clear x0 x1 x2 x3 x4 x5 x6 x7 y0 y1 y2 y3 y4 y5 y6 y7 f0 f1 f2 f3 f4 f5 f6 f7 g0 g1 g2 g3 g4 g5 g6 g7 e0 e1 hwu hgu HX2 HB2 HA2 HSZ
  generalize w2.alloc (.cells #[.int .u64 x.zc, .int .u64 y.zc] 22) = w3 at *
  obtain ⟨x0, x1, x2, x3, x4, x5, x6, x7⟩ := HX3.out.1.1.cells
  obtain ⟨f0, f1, f2, f3, f4, f5, f6, f7⟩ := HX3.out.1.1.frozen
  obtain ⟨y0, y1, y2, y3, y4, y5, y6, y7⟩ := HX3.out.1.2.cells
  have e0 := HX3.out.1.1.lt
  have e1 := HX3.out.1.2.lt
  by_cases hz : 18446744073709551615 < x.zc + y.zc
  · refine (add_two_over gu 2 x.zc y.zc w3 u0 u1 q0 q1 q2 q3 hz).mono ?_
    rintro e w4 ⟨rfl, rfl⟩
    have hE : mAddE x y = 5 := by unfold mAddE; rw [if_pos hz]
    have HE := Lib.hid (show AddOut w a0 b0 (.returned (.tuple #[.agg #[.int .i64 0, .int .i64 0, .int .i64 0, .int .u64 0, .int .u64 0, .int .i64 0, .slice none 0 0, .slice none 0 0], .int .i64 5])) (set8 w3 (w.heap.size + 1 + 1) (.int .i64 0) (.int .i64 0) (.int .i64 0) (.int .u64 0) (.int .u64 0) (.int .i64 0) (.slice none 0 0) (.slice none 0 0)) from ⟨x, y, HKK.out, (RetH.zero (E := 5) (below_set8 HB3.out (by omega : w.heap.size ≤ w.heap.size + 1 + 1) (.int .i64 0) (.int .i64 0) (.int .i64 0) (.int .u64 0) (.int .u64 0) (.int .i64 0) (.slice none 0 0) (.slice none 0 0))).as (by unfold mAddO; rw [hE, if_neg (by decide)]) hE.symm⟩)
    clear hz hE u0 u1
    obtain ⟨z0, z1, z2, z3, z4, z5, z6, z7⟩ := HX3.out.2.cells
    obtain ⟨h0, h1, h2, h3, h4, h5, h6, h7⟩ := HX3.out.2.frozen
    have e2 := HX3.out.2.lt
    go_wp2_with fail
    exact bodyPost_ret (v := .tuple #[.agg #[.int .i64 0, .int .i64 0, .int .i64 0, .int .u64 0, .int .u64 0, .int .i64 0, .slice none 0 0, .slice none 0 0], .int .i64 5]) (by simp [results, Try.results14, go_sem, z0, z1, z2, z3, z4, z5, z6, z7]) rfl HE.out
  · obtain ⟨S, hS⟩ : ∃ S, x.zc + y.zc = S := ⟨_, rfl⟩
    refine (add_two gu 2 x.zc y.zc w3 u0 u1 q0 q1 q2 q3 S hS (by omega)).mono ?_
    rintro e w4 ⟨rfl, rfl⟩
    have HZZ := Lib.hid (And.intro hz hS)
    clear hz hS u0 u1 q0 q1 q2 q3
    go_wp2_with fail
    have HB4 := Lib.hid (HB3.out.alloc HB3.out.size (.cells #[.int .i64 x.sm, .int .i64 y.sm] 2))
    have HX4 := Lib.hid (And.intro (And.intro (HX3.out.1.1.alloc (.cells #[.int .i64 x.sm, .int .i64 y.sm] 2)) (HX3.out.1.2.alloc (.cells #[.int .i64 x.sm, .int .i64 y.sm] 2))) (HX3.out.2.alloc (.cells #[.int .i64 x.sm, .int .i64 y.sm] 2)))
    have hwu : Below w3.heap.size w3 (w3.alloc (.cells #[.int .i64 x.sm, .int .i64 y.sm] 2)) := (Below.refl _ _).alloc (Nat.le_refl _) _
    have HA4 := Lib.hid (And.intro (And.intro (HA3.out.1.1.below hwu) (HA3.out.1.2.below hwu)) (And.intro (HA3.out.2.1.below hwu) (HA3.out.2.2.below hwu)))
    have HZ4 := Lib.hid (Nat.le_trans HZ3.out hwu.size)
    have u0 : (w3.alloc (.cells #[.int .i64 x.sm, .int .i64 y.sm] 2)).cell? ⟨w3.heap.size, 0, none⟩ = some (.int .i64 x.sm) := by simp [go_sem]
    have u1 : (w3.alloc (.cells #[.int .i64 x.sm, .int .i64 y.sm] 2)).cell? ⟨w3.heap.size, 1, none⟩ = some (.int .i64 y.sm) := by simp [go_sem]
    obtain ⟨gv, hgv⟩ : ∃ g, w3.heap.size = g := ⟨_, rfl⟩
    rw [hgv] at u0 u1 ⊢
    clear x0 x1 x2 x3 x4 x5 x6 x7 y0 y1 y2 y3 y4 y5 y6 y7 f0 f1 f2 f3 f4 f5 f6 f7 e0 e1 hwu hgv HX3 HB3 HA3 HZ3
    generalize w3.alloc (.cells #[.int .i64 x.sm, .int .i64 y.sm] 2) = w4 at *
    obtain ⟨x0, x1, x2, x3, x4, x5, x6, x7⟩ := HX4.out.1.1.cells
    obtain ⟨f0, f1, f2, f3, f4, f5, f6, f7⟩ := HX4.out.1.1.frozen
    obtain ⟨y0, y1, y2, y3, y4, y5, y6, y7⟩ := HX4.out.1.2.cells
    have e0 := HX4.out.1.1.lt
    have e1 := HX4.out.1.2.lt
    obtain ⟨M, hM⟩ : ∃ M, x.sm + y.sm = M := ⟨_, rfl⟩
    refine (addint_two gv 2 x.sm y.sm w4 u0 u1 OXY.out.1.1.sm OXY.out.1.2.sm M hM).mono ?_
    rintro e w5 ⟨rfl, rfl⟩
    clear u0 u1
    by_cases hi : inI64 M
    · rw [(int_fits hi).1, (int_fits hi).2]
      have HI := Lib.hid (And.intro hi hM)
      clear hi hM
      by_cases hk : y.k = 0
      · have hk1 : (y.k != 0) = false := by simpa using hk
        have HKD := Lib.hid (show x.k = (if y.k = 0 then x.k else y.k) by rw [if_pos hk])
        clear hk
        go_wp2_with fail
        have HX5 := Lib.hid (And.intro ((HX4.out.1.1.set3 (.int .u64 S)).set5 (.int .i64 M)) (And.intro ((HX4.out.1.2.off (show w.heap.size + 1 ≠ w.heap.size by omega) 3 (.int .u64 S)).off (show w.heap.size + 1 ≠ w.heap.size by omega) 5 (.int .i64 M)) ((HX4.out.2.off (show w.heap.size + 1 + 1 ≠ w.heap.size by omega) 3 (.int .u64 S)).off (show w.heap.size + 1 + 1 ≠ w.heap.size by omega) 5 (.int .i64 M))))
        have HB5 := Lib.hid ((HB4.out.setCell (p := ⟨w.heap.size, 3, none⟩) (Nat.le_refl _) (.int .u64 S)).setCell (p := ⟨w.heap.size, 5, none⟩) (Nat.le_refl _) (.int .i64 M))
        have HA5 := Lib.hid (And.intro (And.intro ((HA4.out.1.1.off (HN.out.1.1.ne HL.out.1) 3 (.int .u64 S)).off (HN.out.1.1.ne HL.out.1) 5 (.int .i64 M)) ((HA4.out.1.2.off (HN.out.1.2.ne HL.out.1) 3 (.int .u64 S)).off (HN.out.1.2.ne HL.out.1) 5 (.int .i64 M))) (And.intro ((HA4.out.2.1.off (HN.out.2.1.ne HL.out.1) 3 (.int .u64 S)).off (HN.out.2.1.ne HL.out.1) 5 (.int .i64 M)) ((HA4.out.2.2.off (HN.out.2.2.ne HL.out.1) 3 (.int .u64 S)).off (HN.out.2.2.ne HL.out.1) 5 (.int .i64 M))))
        have HZ5 := Lib.hid (show w0.heap.size ≤ (((w4.setCell ⟨w.heap.size, 3, none⟩ (.int .u64 S)).setCell ⟨w.heap.size, 5, none⟩ (.int .i64 M))).heap.size by simp only [World.setCell, Array.size_modify]; exact HZ4.out)
        clear x0 x1 x2 x3 x4 x5 x6 x7 f0 f1 f2 f3 f4 f5 f6 f7 y0 y1 y2 y3 y4 y5 y6 y7 e0 e1 HX4 HB4 HA4 HZ4
        generalize ((w4.setCell ⟨w.heap.size, 3, none⟩ (.int .u64 S)).setCell ⟨w.heap.size, 5, none⟩ (.int .i64 M)) = w5 at *
        obtain ⟨K, hKe⟩ : ∃ K, x.k = K := ⟨_, rfl⟩
        have HKE := Lib.hid (show K = (if y.k = 0 then x.k else y.k) by rw [← hKe]; exact HKD.out)
        clear HKD
        have HT := Lib.hid (show AddT w w0 x y K S M A1 B1 A2 B2 c1 d1 c2 d2 w5 from ⟨⟨by rw [← hKe]; exact HX5.out.1, HX5.out.2.1⟩, ⟨_, _, _, _, _, _, _, _, HX5.out.2.2⟩, HA5.out, HZ5.out, HB5.out⟩)
        clear HX5 HB5 HA5 HZ5 hKe
        obtain ⟨L1, hL1⟩ : ∃ L, x.P ++ y.P = L := ⟨_, rfl⟩
        obtain ⟨L2, hL2⟩ : ∃ L, x.Q ++ y.Q = L := ⟨_, rfl⟩
        have HL1 := Lib.hid hL1
        have HL2 := Lib.hid hL2
        clear hL1 hL2
        have HC1 := Lib.hid (fun (W : World) (g cap : Nat) (hT : AddT w w0 x y K S M A1 B1 A2 B2 c1 d1 c2 d2 W) (h0 : W.cell? ⟨g, 0, none⟩ = some (.slice A1 x.P.length c1)) (h1 : W.cell? ⟨g, 1, none⟩ = some (.slice A2 y.P.length c2)) => concat_two g cap A1 A2 c1 c2 x.P y.P L1 W hT.2.2.1.1.1 hT.2.2.1.2.1 h0 h1 HL1.out (by have := OXY.out.1.1.lP; have := OXY.out.1.2.lP; rw [← HL1.out, List.length_append]; omega))
        have HC2 := Lib.hid (fun (W : World) (g cap : Nat) (hT : AddT w w0 x y K S M A1 B1 A2 B2 c1 d1 c2 d2 W) (h0 : W.cell? ⟨g, 0, none⟩ = some (.slice B1 x.Q.length d1)) (h1 : W.cell? ⟨g, 1, none⟩ = some (.slice B2 y.Q.length d2)) => concat_two g cap B1 B2 d1 d2 x.Q y.Q L2 W hT.2.2.1.1.2 hT.2.2.1.2.2 h0 h1 HL2.out (by have := OXY.out.1.1.lQ; have := OXY.out.1.2.lQ; rw [← HL2.out, List.length_append]; omega))
        obtain ⟨r, hr⟩ : ∃ r, mAddO x y = r := ⟨_, rfl⟩
        obtain ⟨E, hE⟩ : ∃ E, mAddE x y = E := ⟨_, rfl⟩
        have HRE := Lib.hid (And.intro hr hE)
        have HV := Lib.hid (show (⟨K, x.s, x.z, S, x.ct, M, x.P, x.Q⟩ : HV) = mAddV x y from HV.eq HKE.out rfl rfl HZZ.out.2.symm rfl HI.out.2.symm rfl rfl)
        have HME := Lib.hid (show mkE (mAddV x y) L1 L2 = E ∧ mkO (mAddV x y) L1 L2 = r from by
          rw [← HL1.out, ← HL2.out]
          have e1 : mAddE x y = mkE (mAddV x y) (x.P ++ y.P) (x.Q ++ y.Q) := by unfold mAddE; rw [if_neg (by have := HZZ.out.1; have := HZZ.out.2; omega), HI.out.2, if_pos HI.out.1]
          exact ⟨e1.symm.trans hE, by rw [← hr]; unfold mAddO mkO; rw [e1]⟩)
        clear hr hE
        have HC3 := Lib.hid (fun (W : World) (Aa Bb : Option Addr) (ca cb : Nat) (hT : AddT w w0 x y K S M A1 B1 A2 B2 c1 d1 c2 d2 W) (hA : Bk W Aa L1) (hB : Bk W Bb L2) => show Calls Try.prog 40 #[.agg #[.int .i64 K, .int .i64 x.s, .int .i64 x.z, .int .u64 S, .int .u64 x.ct, .int .i64 M, .slice A1 x.P.length c1, .slice B1 x.Q.length d1], .slice Aa L1.length ca, .slice Bb L2.length cb] W (fun e w' => ∃ Ar Br cr dr, e = .returned (.tuple #[.agg #[.int .i64 r.k, .int .i64 r.s, .int .i64 r.z, .int .u64 r.zc, .int .u64 r.ct, .int .i64 r.sm, .slice Ar r.P.length cr, .slice Br r.Q.length dr], .int .i64 E]) ∧ Below W.heap.size W w' ∧ (∀ u0 u1 u2 u3 u4 u5 u6 u7, RetH w r E (.returned (.tuple #[.agg #[.int .i64 r.k, .int .i64 r.s, .int .i64 r.z, .int .u64 r.zc, .int .u64 r.ct, .int .i64 r.sm, .slice Ar r.P.length cr, .slice Br r.Q.length dr], .int .i64 E])) (set8 w' (w.heap.size + 1 + 1) u0 u1 u2 u3 u4 u5 u6 u7)) ∧ AddT w w0 x y K S M A1 B1 A2 B2 c1 d1 c2 d2 w') from by
          refine (make_hv ⟨K, x.s, x.z, S, x.ct, M, x.P, x.Q⟩ x.ct A1 B1 Aa Bb x.P.length c1 x.Q.length d1 ca cb L1 L2 W ⟨by have := right_yes OXY.out.1.1.s; simp only; omega, by have := right_yes OXY.out.1.1.s; simp only; omega⟩ (by have := HZZ.out.2; have := OXY.out.1.1.zc; have := OXY.out.1.2.zc; simp only; omega) (by have := HZZ.out.1; have := HZZ.out.2; simp only; omega) hA hB (by have := OXY.out.1.1.lP; have := OXY.out.1.2.lP; rw [← HL1.out, List.length_append]; omega) (by have := OXY.out.1.1.lQ; have := OXY.out.1.2.lQ; rw [← HL2.out, List.length_append]; omega)).mono ?_
          intro e w' h
          rw [HV.out] at h
          obtain ⟨Ar, Br, cr, dr, rfl, hAr, hBr, hb8, nAr, nBr⟩ := h.as HME.out.2 HME.out.1
          have hT8 := AddT.below hb8 hT
          exact ⟨Ar, Br, cr, dr, rfl, hb8, RetH.fin hT8.2.2.2.2 hT.2.2.2.2.size (Nat.lt_of_lt_of_le HL.out.2.2 hT.2.2.2.1) (by omega) hAr hBr nAr nBr, hT8⟩)
        have HSS := Lib.hid (fun (W' : World) (h : AddT w w0 x y K S M A1 B1 A2 B2 c1 d1 c2 d2 W') => show ((W'.cell? ⟨w.heap.size, 0, none⟩ = some (.int .i64 K) ∧ W'.cell? ⟨w.heap.size, 1, none⟩ = some (.int .i64 x.s) ∧ W'.cell? ⟨w.heap.size, 2, none⟩ = some (.int .i64 x.z) ∧ W'.cell? ⟨w.heap.size, 3, none⟩ = some (.int .u64 S) ∧ W'.cell? ⟨w.heap.size, 4, none⟩ = some (.int .u64 x.ct) ∧ W'.cell? ⟨w.heap.size, 5, none⟩ = some (.int .i64 M) ∧ W'.cell? ⟨w.heap.size, 6, none⟩ = some (.slice A1 x.P.length c1) ∧ W'.cell? ⟨w.heap.size, 7, none⟩ = some (.slice B1 x.Q.length d1)) ∧ (W'.cell? ⟨w.heap.size + 1, 6, none⟩ = some (.slice A2 y.P.length c2) ∧ W'.cell? ⟨w.heap.size + 1, 7, none⟩ = some (.slice B2 y.Q.length d2)) ∧ AddT w w0 x y K S M A1 B1 A2 B2 c1 d1 c2 d2 W') from h.cells)
        obtain ⟨⟨x0, x1, x2, x3, x4, x5, x6, x7⟩, ⟨y6, y7⟩, hT0⟩ := HT.out.cells
        have e0 := HT.out.1.1.lt
        have e1 := HT.out.1.2.lt
        have e2 : w.heap.size + 1 + 1 < w5.heap.size := Nat.lt_of_lt_of_le HL.out.2.2 HT.out.2.2.2.1
        go_region_held3 (fun W' => ((W'.cell? ⟨w.heap.size, 0, none⟩ = some (.int .i64 K) ∧ W'.cell? ⟨w.heap.size, 1, none⟩ = some (.int .i64 x.s) ∧ W'.cell? ⟨w.heap.size, 2, none⟩ = some (.int .i64 x.z) ∧ W'.cell? ⟨w.heap.size, 3, none⟩ = some (.int .u64 S) ∧ W'.cell? ⟨w.heap.size, 4, none⟩ = some (.int .u64 x.ct) ∧ W'.cell? ⟨w.heap.size, 5, none⟩ = some (.int .i64 M) ∧ W'.cell? ⟨w.heap.size, 6, none⟩ = some (.slice A1 x.P.length c1) ∧ W'.cell? ⟨w.heap.size, 7, none⟩ = some (.slice B1 x.Q.length d1)) ∧ (W'.cell? ⟨w.heap.size + 1, 6, none⟩ = some (.slice A2 y.P.length c2) ∧ W'.cell? ⟨w.heap.size + 1, 7, none⟩ = some (.slice B2 y.Q.length d2)) ∧ AddT w w0 x y K S M A1 B1 A2 B2 c1 d1 c2 d2 W')) (first | with_reducible assumption | with_reducible exact HSS.out _ (AddT.storeC HN.out HL.out.2.2 _ _ _ _ _ _ _ _ HB8.out) | with_reducible exact HSS.out _ (AddT.below (Below.refl _ _).drew hT0) | with_reducible exact HSS.out _ (AddT.below ((Below.refl _ _).alloc (Nat.le_refl _) _) (And.right (And.right (by assumption)))) | with_reducible exact HSS.out _ (AddT.below (by assumption) (And.right (And.right (by assumption)))))
          (first
            | (go_at_call 45; first
              | ((with_reducible refine (HC1.out _ _ _ (And.right (And.right (by assumption))) ?q0 ?q1).mono ?_); (case q0 => (simp [go_sem]; done)); (case q1 => (simp [go_sem]; done)); rintro e w6 ⟨Aa, ca, rfl, hAa, hb6⟩)
              | ((with_reducible refine (HC2.out _ _ _ (And.right (And.right (by assumption))) ?q0 ?q1).mono ?_); (case q0 => (simp [go_sem]; done)); (case q1 => (simp [go_sem]; done)); rintro e w7 ⟨Bb, cb, rfl, hBb, hb7⟩; have hAa7 : Bk w7 _ L1 := Bk.below (Bk.below (by assumption) ((Below.refl _ _).alloc (Nat.le_refl _) _)) hb7)
              | ((with_reducible refine (HC2.out _ _ _ (And.right (And.right (by assumption))) ?q0 ?q1).mono ?_); (case q0 => (refine Kept.of_below (by assumption) _ _ ?_; simp [go_sem]; done)); (case q1 => (refine Kept.of_below (by assumption) _ _ ?_; simp [go_sem]; done)); rintro e w7 ⟨Bb, cb, rfl, hBb, hb7⟩; have hAa7 : Bk w7 _ L1 := Bk.below (by assumption) hb7)
              | fail)
            | (go_at_call 40; ((with_reducible refine (HC3.out _ _ _ _ _ (And.right (And.right (by assumption))) (by assumption) (by assumption)).mono ?_); rintro e w8 ⟨Ar, Br, cr, dr, rfl, hb8, hfin, hT8⟩; have HFIN := Lib.hid hfin; have HB8 := Lib.hid hT8; obtain ⟨v0, v1, v2, v3, v4, v5, v6, v7, hbx⟩ := hT8.2.1; have HBX := Lib.hid hbx; obtain ⟨z0, z1, z2, z3, z4, z5, z6, z7⟩ := hbx.cells; obtain ⟨h0, h1, h2, h3, h4, h5, h6, h7⟩ := hbx.frozen; clear hbx hT8 hfin))
            | fail)
        all_goals (go_wp2_with fail)
        all_goals
          have HF := Lib.hid (HBX.out.put8 (.int .i64 r.k) (.int .i64 r.s) (.int .i64 r.z) (.int .u64 r.zc) (.int .u64 r.ct) (.int .i64 r.sm) (.slice Ar r.P.length cr) (.slice Br r.Q.length dr))
          have HE := Lib.hid (HFIN.out (.int .i64 r.k) (.int .i64 r.s) (.int .i64 r.z) (.int .u64 r.zc) (.int .u64 r.ct) (.int .i64 r.sm) (.slice Ar r.P.length cr) (.slice Br r.Q.length dr))
          clear z0 z1 z2 z3 z4 z5 z6 z7 h0 h1 h2 h3 h4 h5 h6 h7
          generalize hW : ((((((((w8.setCell ⟨w.heap.size + 1 + 1, 0, none⟩ (.int .i64 r.k)).setCell ⟨w.heap.size + 1 + 1, 1, none⟩ (.int .i64 r.s)).setCell ⟨w.heap.size + 1 + 1, 2, none⟩ (.int .i64 r.z)).setCell ⟨w.heap.size + 1 + 1, 3, none⟩ (.int .u64 r.zc)).setCell ⟨w.heap.size + 1 + 1, 4, none⟩ (.int .u64 r.ct)).setCell ⟨w.heap.size + 1 + 1, 5, none⟩ (.int .i64 r.sm)).setCell ⟨w.heap.size + 1 + 1, 6, none⟩ (.slice Ar r.P.length cr)).setCell ⟨w.heap.size + 1 + 1, 7, none⟩ (.slice Br r.Q.length dr)) = w9
          have hW' : set8 w8 (w.heap.size + 1 + 1) (.int .i64 r.k) (.int .i64 r.s) (.int .i64 r.z) (.int .u64 r.zc) (.int .u64 r.ct) (.int .i64 r.sm) (.slice Ar r.P.length cr) (.slice Br r.Q.length dr) = w9 := hW
          rw [hW'] at HE HF
          obtain ⟨z0, z1, z2, z3, z4, z5, z6, z7⟩ := HF.out.cells
          refine bodyPost_ret (v := .tuple #[.agg #[.int .i64 r.k, .int .i64 r.s, .int .i64 r.z, .int .u64 r.zc, .int .u64 r.ct, .int .i64 r.sm, .slice Ar r.P.length cr, .slice Br r.Q.length dr], .int .i64 E]) (by simp [results, Try.results14, go_sem, z0, z1, z2, z3, z4, z5, z6, z7]) rfl ⟨x, y, HKK.out, HE.out.as HRE.out.1.symm HRE.out.2.symm⟩
      · have hk1 : (y.k != 0) = true := by simpa using hk
        have HKD := Lib.hid (show y.k = (if y.k = 0 then x.k else y.k) by rw [if_neg hk])
        clear hk
        go_wp2_with fail
        have HX5 := Lib.hid (And.intro (((HX4.out.1.1.set0 (.int .i64 y.k)).set3 (.int .u64 S)).set5 (.int .i64 M)) (And.intro (((HX4.out.1.2.off (show w.heap.size + 1 ≠ w.heap.size by omega) 0 (.int .i64 y.k)).off (show w.heap.size + 1 ≠ w.heap.size by omega) 3 (.int .u64 S)).off (show w.heap.size + 1 ≠ w.heap.size by omega) 5 (.int .i64 M)) (((HX4.out.2.off (show w.heap.size + 1 + 1 ≠ w.heap.size by omega) 0 (.int .i64 y.k)).off (show w.heap.size + 1 + 1 ≠ w.heap.size by omega) 3 (.int .u64 S)).off (show w.heap.size + 1 + 1 ≠ w.heap.size by omega) 5 (.int .i64 M))))
        have HB5 := Lib.hid (((HB4.out.setCell (p := ⟨w.heap.size, 0, none⟩) (Nat.le_refl _) (.int .i64 y.k)).setCell (p := ⟨w.heap.size, 3, none⟩) (Nat.le_refl _) (.int .u64 S)).setCell (p := ⟨w.heap.size, 5, none⟩) (Nat.le_refl _) (.int .i64 M))
        have HA5 := Lib.hid (And.intro (And.intro (((HA4.out.1.1.off (HN.out.1.1.ne HL.out.1) 0 (.int .i64 y.k)).off (HN.out.1.1.ne HL.out.1) 3 (.int .u64 S)).off (HN.out.1.1.ne HL.out.1) 5 (.int .i64 M)) (((HA4.out.1.2.off (HN.out.1.2.ne HL.out.1) 0 (.int .i64 y.k)).off (HN.out.1.2.ne HL.out.1) 3 (.int .u64 S)).off (HN.out.1.2.ne HL.out.1) 5 (.int .i64 M))) (And.intro (((HA4.out.2.1.off (HN.out.2.1.ne HL.out.1) 0 (.int .i64 y.k)).off (HN.out.2.1.ne HL.out.1) 3 (.int .u64 S)).off (HN.out.2.1.ne HL.out.1) 5 (.int .i64 M)) (((HA4.out.2.2.off (HN.out.2.2.ne HL.out.1) 0 (.int .i64 y.k)).off (HN.out.2.2.ne HL.out.1) 3 (.int .u64 S)).off (HN.out.2.2.ne HL.out.1) 5 (.int .i64 M))))
        have HZ5 := Lib.hid (show w0.heap.size ≤ ((((w4.setCell ⟨w.heap.size, 0, none⟩ (.int .i64 y.k)).setCell ⟨w.heap.size, 3, none⟩ (.int .u64 S)).setCell ⟨w.heap.size, 5, none⟩ (.int .i64 M))).heap.size by simp only [World.setCell, Array.size_modify]; exact HZ4.out)
        clear x0 x1 x2 x3 x4 x5 x6 x7 f0 f1 f2 f3 f4 f5 f6 f7 y0 y1 y2 y3 y4 y5 y6 y7 e0 e1 HX4 HB4 HA4 HZ4
        generalize (((w4.setCell ⟨w.heap.size, 0, none⟩ (.int .i64 y.k)).setCell ⟨w.heap.size, 3, none⟩ (.int .u64 S)).setCell ⟨w.heap.size, 5, none⟩ (.int .i64 M)) = w5 at *
        obtain ⟨K, hKe⟩ : ∃ K, y.k = K := ⟨_, rfl⟩
        have HKE := Lib.hid (show K = (if y.k = 0 then x.k else y.k) by rw [← hKe]; exact HKD.out)
        clear HKD
        have HT := Lib.hid (show AddT w w0 x y K S M A1 B1 A2 B2 c1 d1 c2 d2 w5 from ⟨⟨by rw [← hKe]; exact HX5.out.1, HX5.out.2.1⟩, ⟨_, _, _, _, _, _, _, _, HX5.out.2.2⟩, HA5.out, HZ5.out, HB5.out⟩)
        clear HX5 HB5 HA5 HZ5 hKe
        obtain ⟨L1, hL1⟩ : ∃ L, x.P ++ y.P = L := ⟨_, rfl⟩
        obtain ⟨L2, hL2⟩ : ∃ L, x.Q ++ y.Q = L := ⟨_, rfl⟩
        have HL1 := Lib.hid hL1
        have HL2 := Lib.hid hL2
        clear hL1 hL2
        have HC1 := Lib.hid (fun (W : World) (g cap : Nat) (hT : AddT w w0 x y K S M A1 B1 A2 B2 c1 d1 c2 d2 W) (h0 : W.cell? ⟨g, 0, none⟩ = some (.slice A1 x.P.length c1)) (h1 : W.cell? ⟨g, 1, none⟩ = some (.slice A2 y.P.length c2)) => concat_two g cap A1 A2 c1 c2 x.P y.P L1 W hT.2.2.1.1.1 hT.2.2.1.2.1 h0 h1 HL1.out (by have := OXY.out.1.1.lP; have := OXY.out.1.2.lP; rw [← HL1.out, List.length_append]; omega))
        have HC2 := Lib.hid (fun (W : World) (g cap : Nat) (hT : AddT w w0 x y K S M A1 B1 A2 B2 c1 d1 c2 d2 W) (h0 : W.cell? ⟨g, 0, none⟩ = some (.slice B1 x.Q.length d1)) (h1 : W.cell? ⟨g, 1, none⟩ = some (.slice B2 y.Q.length d2)) => concat_two g cap B1 B2 d1 d2 x.Q y.Q L2 W hT.2.2.1.1.2 hT.2.2.1.2.2 h0 h1 HL2.out (by have := OXY.out.1.1.lQ; have := OXY.out.1.2.lQ; rw [← HL2.out, List.length_append]; omega))
        obtain ⟨r, hr⟩ : ∃ r, mAddO x y = r := ⟨_, rfl⟩
        obtain ⟨E, hE⟩ : ∃ E, mAddE x y = E := ⟨_, rfl⟩
        have HRE := Lib.hid (And.intro hr hE)
        have HV := Lib.hid (show (⟨K, x.s, x.z, S, x.ct, M, x.P, x.Q⟩ : HV) = mAddV x y from HV.eq HKE.out rfl rfl HZZ.out.2.symm rfl HI.out.2.symm rfl rfl)
        have HME := Lib.hid (show mkE (mAddV x y) L1 L2 = E ∧ mkO (mAddV x y) L1 L2 = r from by
          rw [← HL1.out, ← HL2.out]
          have e1 : mAddE x y = mkE (mAddV x y) (x.P ++ y.P) (x.Q ++ y.Q) := by unfold mAddE; rw [if_neg (by have := HZZ.out.1; have := HZZ.out.2; omega), HI.out.2, if_pos HI.out.1]
          exact ⟨e1.symm.trans hE, by rw [← hr]; unfold mAddO mkO; rw [e1]⟩)
        clear hr hE
        have HC3 := Lib.hid (fun (W : World) (Aa Bb : Option Addr) (ca cb : Nat) (hT : AddT w w0 x y K S M A1 B1 A2 B2 c1 d1 c2 d2 W) (hA : Bk W Aa L1) (hB : Bk W Bb L2) => show Calls Try.prog 40 #[.agg #[.int .i64 K, .int .i64 x.s, .int .i64 x.z, .int .u64 S, .int .u64 x.ct, .int .i64 M, .slice A1 x.P.length c1, .slice B1 x.Q.length d1], .slice Aa L1.length ca, .slice Bb L2.length cb] W (fun e w' => ∃ Ar Br cr dr, e = .returned (.tuple #[.agg #[.int .i64 r.k, .int .i64 r.s, .int .i64 r.z, .int .u64 r.zc, .int .u64 r.ct, .int .i64 r.sm, .slice Ar r.P.length cr, .slice Br r.Q.length dr], .int .i64 E]) ∧ Below W.heap.size W w' ∧ (∀ u0 u1 u2 u3 u4 u5 u6 u7, RetH w r E (.returned (.tuple #[.agg #[.int .i64 r.k, .int .i64 r.s, .int .i64 r.z, .int .u64 r.zc, .int .u64 r.ct, .int .i64 r.sm, .slice Ar r.P.length cr, .slice Br r.Q.length dr], .int .i64 E])) (set8 w' (w.heap.size + 1 + 1) u0 u1 u2 u3 u4 u5 u6 u7)) ∧ AddT w w0 x y K S M A1 B1 A2 B2 c1 d1 c2 d2 w') from by
          refine (make_hv ⟨K, x.s, x.z, S, x.ct, M, x.P, x.Q⟩ x.ct A1 B1 Aa Bb x.P.length c1 x.Q.length d1 ca cb L1 L2 W ⟨by have := right_yes OXY.out.1.1.s; simp only; omega, by have := right_yes OXY.out.1.1.s; simp only; omega⟩ (by have := HZZ.out.2; have := OXY.out.1.1.zc; have := OXY.out.1.2.zc; simp only; omega) (by have := HZZ.out.1; have := HZZ.out.2; simp only; omega) hA hB (by have := OXY.out.1.1.lP; have := OXY.out.1.2.lP; rw [← HL1.out, List.length_append]; omega) (by have := OXY.out.1.1.lQ; have := OXY.out.1.2.lQ; rw [← HL2.out, List.length_append]; omega)).mono ?_
          intro e w' h
          rw [HV.out] at h
          obtain ⟨Ar, Br, cr, dr, rfl, hAr, hBr, hb8, nAr, nBr⟩ := h.as HME.out.2 HME.out.1
          have hT8 := AddT.below hb8 hT
          exact ⟨Ar, Br, cr, dr, rfl, hb8, RetH.fin hT8.2.2.2.2 hT.2.2.2.2.size (Nat.lt_of_lt_of_le HL.out.2.2 hT.2.2.2.1) (by omega) hAr hBr nAr nBr, hT8⟩)
        have HSS := Lib.hid (fun (W' : World) (h : AddT w w0 x y K S M A1 B1 A2 B2 c1 d1 c2 d2 W') => show ((W'.cell? ⟨w.heap.size, 0, none⟩ = some (.int .i64 K) ∧ W'.cell? ⟨w.heap.size, 1, none⟩ = some (.int .i64 x.s) ∧ W'.cell? ⟨w.heap.size, 2, none⟩ = some (.int .i64 x.z) ∧ W'.cell? ⟨w.heap.size, 3, none⟩ = some (.int .u64 S) ∧ W'.cell? ⟨w.heap.size, 4, none⟩ = some (.int .u64 x.ct) ∧ W'.cell? ⟨w.heap.size, 5, none⟩ = some (.int .i64 M) ∧ W'.cell? ⟨w.heap.size, 6, none⟩ = some (.slice A1 x.P.length c1) ∧ W'.cell? ⟨w.heap.size, 7, none⟩ = some (.slice B1 x.Q.length d1)) ∧ (W'.cell? ⟨w.heap.size + 1, 6, none⟩ = some (.slice A2 y.P.length c2) ∧ W'.cell? ⟨w.heap.size + 1, 7, none⟩ = some (.slice B2 y.Q.length d2)) ∧ AddT w w0 x y K S M A1 B1 A2 B2 c1 d1 c2 d2 W') from h.cells)
        obtain ⟨⟨x0, x1, x2, x3, x4, x5, x6, x7⟩, ⟨y6, y7⟩, hT0⟩ := HT.out.cells
        have e0 := HT.out.1.1.lt
        have e1 := HT.out.1.2.lt
        have e2 : w.heap.size + 1 + 1 < w5.heap.size := Nat.lt_of_lt_of_le HL.out.2.2 HT.out.2.2.2.1
        go_region_held3 (fun W' => ((W'.cell? ⟨w.heap.size, 0, none⟩ = some (.int .i64 K) ∧ W'.cell? ⟨w.heap.size, 1, none⟩ = some (.int .i64 x.s) ∧ W'.cell? ⟨w.heap.size, 2, none⟩ = some (.int .i64 x.z) ∧ W'.cell? ⟨w.heap.size, 3, none⟩ = some (.int .u64 S) ∧ W'.cell? ⟨w.heap.size, 4, none⟩ = some (.int .u64 x.ct) ∧ W'.cell? ⟨w.heap.size, 5, none⟩ = some (.int .i64 M) ∧ W'.cell? ⟨w.heap.size, 6, none⟩ = some (.slice A1 x.P.length c1) ∧ W'.cell? ⟨w.heap.size, 7, none⟩ = some (.slice B1 x.Q.length d1)) ∧ (W'.cell? ⟨w.heap.size + 1, 6, none⟩ = some (.slice A2 y.P.length c2) ∧ W'.cell? ⟨w.heap.size + 1, 7, none⟩ = some (.slice B2 y.Q.length d2)) ∧ AddT w w0 x y K S M A1 B1 A2 B2 c1 d1 c2 d2 W')) (first | with_reducible assumption | with_reducible exact HSS.out _ (AddT.storeC HN.out HL.out.2.2 _ _ _ _ _ _ _ _ HB8.out) | with_reducible exact HSS.out _ (AddT.below (Below.refl _ _).drew hT0) | with_reducible exact HSS.out _ (AddT.below ((Below.refl _ _).alloc (Nat.le_refl _) _) (And.right (And.right (by assumption)))) | with_reducible exact HSS.out _ (AddT.below (by assumption) (And.right (And.right (by assumption)))))
          (first
            | (go_at_call 45; first
              | ((with_reducible refine (HC1.out _ _ _ (And.right (And.right (by assumption))) ?q0 ?q1).mono ?_); (case q0 => (simp [go_sem]; done)); (case q1 => (simp [go_sem]; done)); rintro e w6 ⟨Aa, ca, rfl, hAa, hb6⟩)
              | ((with_reducible refine (HC2.out _ _ _ (And.right (And.right (by assumption))) ?q0 ?q1).mono ?_); (case q0 => (simp [go_sem]; done)); (case q1 => (simp [go_sem]; done)); rintro e w7 ⟨Bb, cb, rfl, hBb, hb7⟩; have hAa7 : Bk w7 _ L1 := Bk.below (Bk.below (by assumption) ((Below.refl _ _).alloc (Nat.le_refl _) _)) hb7)
              | ((with_reducible refine (HC2.out _ _ _ (And.right (And.right (by assumption))) ?q0 ?q1).mono ?_); (case q0 => (refine Kept.of_below (by assumption) _ _ ?_; simp [go_sem]; done)); (case q1 => (refine Kept.of_below (by assumption) _ _ ?_; simp [go_sem]; done)); rintro e w7 ⟨Bb, cb, rfl, hBb, hb7⟩; have hAa7 : Bk w7 _ L1 := Bk.below (by assumption) hb7)
              | fail)
            | (go_at_call 40; ((with_reducible refine (HC3.out _ _ _ _ _ (And.right (And.right (by assumption))) (by assumption) (by assumption)).mono ?_); rintro e w8 ⟨Ar, Br, cr, dr, rfl, hb8, hfin, hT8⟩; have HFIN := Lib.hid hfin; have HB8 := Lib.hid hT8; obtain ⟨v0, v1, v2, v3, v4, v5, v6, v7, hbx⟩ := hT8.2.1; have HBX := Lib.hid hbx; obtain ⟨z0, z1, z2, z3, z4, z5, z6, z7⟩ := hbx.cells; obtain ⟨h0, h1, h2, h3, h4, h5, h6, h7⟩ := hbx.frozen; clear hbx hT8 hfin))
            | fail)
        all_goals (go_wp2_with fail)
        all_goals
          have HF := Lib.hid (HBX.out.put8 (.int .i64 r.k) (.int .i64 r.s) (.int .i64 r.z) (.int .u64 r.zc) (.int .u64 r.ct) (.int .i64 r.sm) (.slice Ar r.P.length cr) (.slice Br r.Q.length dr))
          have HE := Lib.hid (HFIN.out (.int .i64 r.k) (.int .i64 r.s) (.int .i64 r.z) (.int .u64 r.zc) (.int .u64 r.ct) (.int .i64 r.sm) (.slice Ar r.P.length cr) (.slice Br r.Q.length dr))
          clear z0 z1 z2 z3 z4 z5 z6 z7 h0 h1 h2 h3 h4 h5 h6 h7
          generalize hW : ((((((((w8.setCell ⟨w.heap.size + 1 + 1, 0, none⟩ (.int .i64 r.k)).setCell ⟨w.heap.size + 1 + 1, 1, none⟩ (.int .i64 r.s)).setCell ⟨w.heap.size + 1 + 1, 2, none⟩ (.int .i64 r.z)).setCell ⟨w.heap.size + 1 + 1, 3, none⟩ (.int .u64 r.zc)).setCell ⟨w.heap.size + 1 + 1, 4, none⟩ (.int .u64 r.ct)).setCell ⟨w.heap.size + 1 + 1, 5, none⟩ (.int .i64 r.sm)).setCell ⟨w.heap.size + 1 + 1, 6, none⟩ (.slice Ar r.P.length cr)).setCell ⟨w.heap.size + 1 + 1, 7, none⟩ (.slice Br r.Q.length dr)) = w9
          have hW' : set8 w8 (w.heap.size + 1 + 1) (.int .i64 r.k) (.int .i64 r.s) (.int .i64 r.z) (.int .u64 r.zc) (.int .u64 r.ct) (.int .i64 r.sm) (.slice Ar r.P.length cr) (.slice Br r.Q.length dr) = w9 := hW
          rw [hW'] at HE HF
          obtain ⟨z0, z1, z2, z3, z4, z5, z6, z7⟩ := HF.out.cells
          refine bodyPost_ret (v := .tuple #[.agg #[.int .i64 r.k, .int .i64 r.s, .int .i64 r.z, .int .u64 r.zc, .int .u64 r.ct, .int .i64 r.sm, .slice Ar r.P.length cr, .slice Br r.Q.length dr], .int .i64 E]) (by simp [results, Try.results14, go_sem, z0, z1, z2, z3, z4, z5, z6, z7]) rfl ⟨x, y, HKK.out, HE.out.as HRE.out.1.symm HRE.out.2.symm⟩
    · rw [(int_over hi).1, (int_over hi).2]
      have hE : mAddE x y = 5 := by unfold mAddE; rw [if_neg (by have := HZZ.out.1; omega), hM, if_neg hi]
      have HE := Lib.hid (show AddOut w a0 b0 (.returned (.tuple #[.agg #[.int .i64 0, .int .i64 0, .int .i64 0, .int .u64 0, .int .u64 0, .int .i64 0, .slice none 0 0, .slice none 0 0], .int .i64 5])) (set8 w4 (w.heap.size + 1 + 1) (.int .i64 0) (.int .i64 0) (.int .i64 0) (.int .u64 0) (.int .u64 0) (.int .i64 0) (.slice none 0 0) (.slice none 0 0)) from ⟨x, y, HKK.out, (RetH.zero (E := 5) (below_set8 HB4.out (by omega : w.heap.size ≤ w.heap.size + 1 + 1) (.int .i64 0) (.int .i64 0) (.int .i64 0) (.int .u64 0) (.int .u64 0) (.int .i64 0) (.slice none 0 0) (.slice none 0 0))).as (by unfold mAddO; rw [hE, if_neg (by decide)]) hE.symm⟩)
      clear hi hE hM
      obtain ⟨z0, z1, z2, z3, z4, z5, z6, z7⟩ := HX4.out.2.cells
      obtain ⟨h0, h1, h2, h3, h4, h5, h6, h7⟩ := HX4.out.2.frozen
      have e2 := HX4.out.2.lt
      go_wp2_with fail
      exact bodyPost_ret (v := .tuple #[.agg #[.int .i64 0, .int .i64 0, .int .i64 0, .int .u64 0, .int .u64 0, .int .i64 0, .slice none 0 0, .slice none 0 0], .int .i64 5]) (by simp [results, Try.results14, go_sem, z0, z1, z2, z3, z4, z5, z6, z7]) rfl HE.out
end Go.Proofs.Ytbibhjcmdehdbaa
