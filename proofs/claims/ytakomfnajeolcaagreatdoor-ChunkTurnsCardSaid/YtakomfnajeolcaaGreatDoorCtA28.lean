import Derived.Test.YtakomfnajeolcaaGreatDoorCtA27
set_option linter.unusedVariables false
/- both: one thing done with two histograms. -/
namespace Go.Proofs.YtakomfnajeolcaaGreatDoor
open Go.RowKit Go.Sort Go.Maps
set_option linter.unusedVariables false

/-- two histograms and an error are returned -/
def RetT (w : World) (r q : HV) (E : Int) (e : Ending) (w' : World) : Prop :=
  ∃ (A B A' B' : Option Addr) (c d c' d' : Nat), e = .returned (.tuple #[hvA r A B c d, hvA q A' B' c' d', .int .i64 E]) ∧ (Bk w' A r.P ∧ Bk w' B r.Q ∧ Bk w' A' q.P ∧ Bk w' B' q.Q) ∧ Below w.heap.size w w' ∧ NewA w A ∧ NewA w B ∧ NewA w A' ∧ NewA w B'
theorem RetT.drew {w : World} {r q : HV} {E : Int} {e : Ending} {w' : World} (h : RetT w r q E e w') : RetT w r q E e w'.drew := by
  obtain ⟨A, B, A', B', c, d, c', d', he, ⟨h1, h2, h3, h4⟩, hb, hn⟩ := h
  exact ⟨A, B, A', B', c, d, c', d', he, ⟨h1, h2, h3, h4⟩, Below.drew hb, hn⟩
theorem Box.new (W : World) (v0 v1 v2 v3 v4 v5 v6 v7 : Value) : Box (W.alloc (.cells #[v0, v1, v2, v3, v4, v5, v6, v7] 39)) W.heap.size v0 v1 v2 v3 v4 v5 v6 v7 := heap_alloc_new W _
theorem Box.newAt (W : World) (g : Nat) (hg : W.heap.size = g) (v0 v1 v2 v3 v4 v5 v6 v7 : Value) : Box (W.alloc (.cells #[v0, v1, v2, v3, v4, v5, v6, v7] 39)) g v0 v1 v2 v3 v4 v5 v6 v7 := by subst hg; exact Box.new W _ _ _ _ _ _ _ _
theorem Box.alloc {W : World} {g : Nat} {v0 v1 v2 v3 v4 v5 v6 v7 : Value} (h : Box W g v0 v1 v2 v3 v4 v5 v6 v7) (o : Obj) : Box (W.alloc o) g v0 v1 v2 v3 v4 v5 v6 v7 := (Below.heap_alloc _ _ _ h.lt).trans h
theorem Box.set0 {W : World} {g : Nat} {v0 v1 v2 v3 v4 v5 v6 v7 : Value} (h : Box W g v0 v1 v2 v3 v4 v5 v6 v7) (u : Value) : Box (W.setCell ⟨g, 0, none⟩ u) g u v1 v2 v3 v4 v5 v6 v7 := heap_set_at h u
theorem Box.set4 {W : World} {g : Nat} {v0 v1 v2 v3 v4 v5 v6 v7 : Value} (h : Box W g v0 v1 v2 v3 v4 v5 v6 v7) (u : Value) : Box (W.setCell ⟨g, 4, none⟩ u) g v0 v1 v2 v3 u v5 v6 v7 := heap_set_at h u
theorem Box.set5 {W : World} {g : Nat} {v0 v1 v2 v3 v4 v5 v6 v7 : Value} (h : Box W g v0 v1 v2 v3 v4 v5 v6 v7) (u : Value) : Box (W.setCell ⟨g, 5, none⟩ u) g v0 v1 v2 v3 v4 u v6 v7 := heap_set_at h u
theorem Box.put8 {W : World} {g : Nat} {v0 v1 v2 v3 v4 v5 v6 v7 : Value} (h : Box W g v0 v1 v2 v3 v4 v5 v6 v7) (u0 u1 u2 u3 u4 u5 u6 u7 : Value) : Box (set8 W g u0 u1 u2 u3 u4 u5 u6 u7) g u0 u1 u2 u3 u4 u5 u6 u7 := by
  unfold set8
  exact (((((((h.set0 u0).set1 u1).set2 u2).set3 u3).set4 u4).set5 u5).set6 u6).set7 u7
theorem Box.off8 {W : World} {g g' : Nat} {v0 v1 v2 v3 v4 v5 v6 v7 : Value} (h : Box W g v0 v1 v2 v3 v4 v5 v6 v7) (hg : g ≠ g') (u0 u1 u2 u3 u4 u5 u6 u7 : Value) : Box (set8 W g' u0 u1 u2 u3 u4 u5 u6 u7) g v0 v1 v2 v3 v4 v5 v6 v7 := by
  unfold set8
  exact (((((((h.off hg 0 u0).off hg 1 u1).off hg 2 u2).off hg 3 u3).off hg 4 u4).off hg 5 u5).off hg 6 u6).off hg 7 u7
theorem size_set8 (W : World) (g : Nat) (u0 u1 u2 u3 u4 u5 u6 u7 : Value) : (set8 W g u0 u1 u2 u3 u4 u5 u6 u7).heap.size = W.heap.size := by simp [set8, World.setCell]
theorem NewA.set8 {W : World} {A : Option Addr} {w : World} (h : NewA W A) (hs : w.heap.size ≤ W.heap.size) : NewA w A := h.mono hs
set_option maxHeartbeats 4000000 in
set_option maxRecDepth 100000 in
theorem mboth_down (u : Int) (k s z zc ct sm : Int) (P Q : List (Int × Int)) (k' s' z' zc' ct' sm' : Int) (P' Q' : List (Int × Int)) (r q : HV) (A B A' B' : Option Addr) (c d c' d' : Nat) (w : World)
    (h1 : ∀ (W : World), Below w.heap.size w W → Calls Tryz.prog 142 #[.agg #[.int .i64 k, .int .i64 s, .int .i64 z, .int .u64 zc, .int .u64 ct, .int .i64 sm, .slice A P.length c, .slice B Q.length d], .int .i64 u] W (RetH W r 0))
    (h2 : ∀ (W : World), Below w.heap.size w W → Calls Tryz.prog 142 #[.agg #[.int .i64 k', .int .i64 s', .int .i64 z', .int .u64 zc', .int .u64 ct', .int .i64 sm', .slice A' P'.length c', .slice B' Q'.length d'], .int .i64 u] W (RetH W q 0)) :
    Calls Tryz.prog 141 #[.agg #[.int .i64 k, .int .i64 s, .int .i64 z, .int .u64 zc, .int .u64 ct, .int .i64 sm, .slice A P.length c, .slice B Q.length d], .agg #[.int .i64 k', .int .i64 s', .int .i64 z', .int .u64 zc', .int .u64 ct', .int .i64 sm', .slice A' P'.length c', .slice B' Q'.length d'], .func (.func 142) #[] #[], .int .i64 u] w (RetT w r q 0) := by
  have H1 := Lib.hid h1
  have H2 := Lib.hid h2
  have b0 := (((Box.new w (.int .i64 k) (.int .i64 s) (.int .i64 z) (.int .u64 zc) (.int .u64 ct) (.int .i64 sm) (.slice A P.length c) (.slice B Q.length d)).alloc (.cells #[.int .i64 k', .int .i64 s', .int .i64 z', .int .u64 zc', .int .u64 ct', .int .i64 sm', .slice A' P'.length c', .slice B' Q'.length d'] 39)).alloc (.cells #[.int .i64 0, .int .i64 0, .int .i64 0, .int .u64 0, .int .u64 0, .int .i64 0, .slice none 0 0, .slice none 0 0] 39)).alloc (.cells #[.int .i64 0, .int .i64 0, .int .i64 0, .int .u64 0, .int .u64 0, .int .i64 0, .slice none 0 0, .slice none 0 0] 39)
  have b1 := ((Box.newAt (w.alloc (.cells #[.int .i64 k, .int .i64 s, .int .i64 z, .int .u64 zc, .int .u64 ct, .int .i64 sm, .slice A P.length c, .slice B Q.length d] 39)) (w.heap.size + 1) (by simp) (.int .i64 k') (.int .i64 s') (.int .i64 z') (.int .u64 zc') (.int .u64 ct') (.int .i64 sm') (.slice A' P'.length c') (.slice B' Q'.length d')).alloc (.cells #[.int .i64 0, .int .i64 0, .int .i64 0, .int .u64 0, .int .u64 0, .int .i64 0, .slice none 0 0, .slice none 0 0] 39)).alloc (.cells #[.int .i64 0, .int .i64 0, .int .i64 0, .int .u64 0, .int .u64 0, .int .i64 0, .slice none 0 0, .slice none 0 0] 39)
  have b2 := (Box.newAt ((w.alloc (.cells #[.int .i64 k, .int .i64 s, .int .i64 z, .int .u64 zc, .int .u64 ct, .int .i64 sm, .slice A P.length c, .slice B Q.length d] 39)).alloc (.cells #[.int .i64 k', .int .i64 s', .int .i64 z', .int .u64 zc', .int .u64 ct', .int .i64 sm', .slice A' P'.length c', .slice B' Q'.length d'] 39)) (w.heap.size + 1 + 1) (by simp) (.int .i64 0) (.int .i64 0) (.int .i64 0) (.int .u64 0) (.int .u64 0) (.int .i64 0) (.slice none 0 0) (.slice none 0 0)).alloc (.cells #[.int .i64 0, .int .i64 0, .int .i64 0, .int .u64 0, .int .u64 0, .int .i64 0, .slice none 0 0, .slice none 0 0] 39)
  have b3 := Box.newAt (((w.alloc (.cells #[.int .i64 k, .int .i64 s, .int .i64 z, .int .u64 zc, .int .u64 ct, .int .i64 sm, .slice A P.length c, .slice B Q.length d] 39)).alloc (.cells #[.int .i64 k', .int .i64 s', .int .i64 z', .int .u64 zc', .int .u64 ct', .int .i64 sm', .slice A' P'.length c', .slice B' Q'.length d'] 39)).alloc (.cells #[.int .i64 0, .int .i64 0, .int .i64 0, .int .u64 0, .int .u64 0, .int .i64 0, .slice none 0 0, .slice none 0 0] 39)) (w.heap.size + 1 + 1 + 1) (by simp) (.int .i64 0) (.int .i64 0) (.int .i64 0) (.int .u64 0) (.int .u64 0) (.int .i64 0) (.slice none 0 0) (.slice none 0 0)
  have hb := ((((Below.refl w.heap.size w).alloc (Nat.le_refl _) (.cells #[.int .i64 k, .int .i64 s, .int .i64 z, .int .u64 zc, .int .u64 ct, .int .i64 sm, .slice A P.length c, .slice B Q.length d] 39)).alloc (by simp) (.cells #[.int .i64 k', .int .i64 s', .int .i64 z', .int .u64 zc', .int .u64 ct', .int .i64 sm', .slice A' P'.length c', .slice B' Q'.length d'] 39)).alloc (by simp; omega) (.cells #[.int .i64 0, .int .i64 0, .int .i64 0, .int .u64 0, .int .u64 0, .int .i64 0, .slice none 0 0, .slice none 0 0] 39)).alloc (by simp; omega) (.cells #[.int .i64 0, .int .i64 0, .int .i64 0, .int .u64 0, .int .u64 0, .int .i64 0, .slice none 0 0, .slice none 0 0] 39)
  have HX := Lib.hid (And.intro (And.intro b0 b1) (And.intro b2 b3))
  have HB := Lib.hid hb
  clear h1 h2 b0 b1 b2 b3 hb
  go_enter Tryz.func141, Tryz.ntmps141
  go_wp2_with fail
  generalize ((((w.alloc (.cells #[.int .i64 k, .int .i64 s, .int .i64 z, .int .u64 zc, .int .u64 ct, .int .i64 sm, .slice A P.length c, .slice B Q.length d] 39)).alloc (.cells #[.int .i64 k', .int .i64 s', .int .i64 z', .int .u64 zc', .int .u64 ct', .int .i64 sm', .slice A' P'.length c', .slice B' Q'.length d'] 39)).alloc (.cells #[.int .i64 0, .int .i64 0, .int .i64 0, .int .u64 0, .int .u64 0, .int .i64 0, .slice none 0 0, .slice none 0 0] 39)).alloc (.cells #[.int .i64 0, .int .i64 0, .int .i64 0, .int .u64 0, .int .u64 0, .int .i64 0, .slice none 0 0, .slice none 0 0] 39)) = w0 at *
  refine (H1.out w0 HB.out).mono ?_
  rintro e w1 ⟨A1, B1, c1, d1, rfl, hA1, hB1, hb1, nA1, nB1⟩
  have hl0 := HX.out.1.1.lt
  have hl1 := HX.out.1.2.lt
  have hl2 := HX.out.2.1.lt
  have hl3 := HX.out.2.2.lt
  have n01 : w.heap.size ≠ w.heap.size + 1 := by omega
  have n10 : w.heap.size + 1 ≠ w.heap.size := by omega
  have HX1 := Lib.hid (And.intro (And.intro (HX.out.1.1.below hb1) (HX.out.1.2.below hb1)) (And.intro (HX.out.2.1.below hb1) (HX.out.2.2.below hb1)))
  have HB1 := Lib.hid (HB.out.trans (hb1.mono HB.out.size))
  have HA1 := Lib.hid (And.intro (And.intro hA1 hB1) (And.intro nA1 nB1))
  obtain ⟨x0, x1, x2, x3, x4, x5, x6, x7⟩ := HX1.out.1.2.cells
  obtain ⟨y0, y1, y2, y3, y4, y5, y6, y7⟩ := HX1.out.1.1.cells
  obtain ⟨f0, f1, f2, f3, f4, f5, f6, f7⟩ := HX1.out.1.1.frozen
  have hlt := HX1.out.1.1.lt
  have hlt1 := HX1.out.1.2.lt
  have hb1s := hb1.size
  clear hb1 hA1 hB1 nA1 nB1
  obtain ⟨rk, rs, rz, rzc, rct, rsm, rP, rQ⟩ := r
  simp only [hvA]
  go_wp2_with fail
  have HX2 := Lib.hid (And.intro (HX1.out.1.2.off8 n10 (.int .i64 rk) (.int .i64 rs) (.int .i64 rz) (.int .u64 rzc) (.int .u64 rct) (.int .i64 rsm) (.slice A1 rP.length c1) (.slice B1 rQ.length d1)) (And.intro (HX1.out.2.1.off8 (show w.heap.size + 1 + 1 ≠ w.heap.size by omega) (.int .i64 rk) (.int .i64 rs) (.int .i64 rz) (.int .u64 rzc) (.int .u64 rct) (.int .i64 rsm) (.slice A1 rP.length c1) (.slice B1 rQ.length d1)) (HX1.out.2.2.off8 (show w.heap.size + 1 + 1 + 1 ≠ w.heap.size by omega) (.int .i64 rk) (.int .i64 rs) (.int .i64 rz) (.int .u64 rzc) (.int .u64 rct) (.int .i64 rsm) (.slice A1 rP.length c1) (.slice B1 rQ.length d1))))
  have HY2 := Lib.hid (HX1.out.1.1.put8 (.int .i64 rk) (.int .i64 rs) (.int .i64 rz) (.int .u64 rzc) (.int .u64 rct) (.int .i64 rsm) (.slice A1 rP.length c1) (.slice B1 rQ.length d1))
  have HB2 := Lib.hid (below_set8 HB1.out (Nat.le_refl w.heap.size) (.int .i64 rk) (.int .i64 rs) (.int .i64 rz) (.int .u64 rzc) (.int .u64 rct) (.int .i64 rsm) (.slice A1 rP.length c1) (.slice B1 rQ.length d1))
  have HA2 := Lib.hid (And.intro (HA1.out.1.1.set8 (HA1.out.2.1.ne (by omega : w.heap.size < w0.heap.size)) (.int .i64 rk) (.int .i64 rs) (.int .i64 rz) (.int .u64 rzc) (.int .u64 rct) (.int .i64 rsm) (.slice A1 rP.length c1) (.slice B1 rQ.length d1)) (HA1.out.1.2.set8 (HA1.out.2.2.ne (by omega : w.heap.size < w0.heap.size)) (.int .i64 rk) (.int .i64 rs) (.int .i64 rz) (.int .u64 rzc) (.int .u64 rct) (.int .i64 rsm) (.slice A1 rP.length c1) (.slice B1 rQ.length d1)))
  have HN := Lib.hid HA1.out.2
  have HSW := Lib.hid hb1s
  clear x0 x1 x2 x3 x4 x5 x6 x7 y0 y1 y2 y3 y4 y5 y6 y7 f0 f1 f2 f3 f4 f5 f6 f7 hlt hlt1
  have HSZ := Lib.hid (size_set8 w1 w.heap.size (.int .i64 rk) (.int .i64 rs) (.int .i64 rz) (.int .u64 rzc) (.int .u64 rct) (.int .i64 rsm) (.slice A1 rP.length c1) (.slice B1 rQ.length d1))
  generalize hW : ((((((((w1.setCell ⟨w.heap.size, 0, none⟩ (.int .i64 rk)).setCell ⟨w.heap.size, 1, none⟩ (.int .i64 rs)).setCell ⟨w.heap.size, 2, none⟩ (.int .i64 rz)).setCell ⟨w.heap.size, 3, none⟩ (.int .u64 rzc)).setCell ⟨w.heap.size, 4, none⟩ (.int .u64 rct)).setCell ⟨w.heap.size, 5, none⟩ (.int .i64 rsm)).setCell ⟨w.heap.size, 6, none⟩ (.slice A1 rP.length c1)).setCell ⟨w.heap.size, 7, none⟩ (.slice B1 rQ.length d1)) = w2
  have hW' : set8 w1 w.heap.size (.int .i64 rk) (.int .i64 rs) (.int .i64 rz) (.int .u64 rzc) (.int .u64 rct) (.int .i64 rsm) (.slice A1 rP.length c1) (.slice B1 rQ.length d1) = w2 := hW
  rw [hW'] at HX2 HY2 HB2 HA2 HSZ
  clear hW hW' HX1 HB1 HA1
  refine (H2.out w2 HB2.out).mono ?_
  rintro e w3 ⟨A2, B2, c2, d2, rfl, hA2, hB2, hb3, nA2, nB2⟩
  have hsz := HSZ.out
  have hs3 := hb3.size
  have HX3 := Lib.hid (And.intro (HY2.out.below hb3) (And.intro (HX2.out.1.below hb3) (And.intro (HX2.out.2.1.below hb3) (HX2.out.2.2.below hb3))))
  have HB3 := Lib.hid (HB2.out.trans (hb3.mono HB2.out.size))
  have m0 : w0.heap.size ≤ w2.heap.size := by have := HSW.out; omega
  have HA3 := Lib.hid (And.intro (And.intro (HA2.out.1.below hb3) (HA2.out.2.below hb3)) (And.intro hA2 hB2))
  have HN3 := Lib.hid (And.intro HN.out (And.intro (nA2.mono m0) (nB2.mono m0)))
  obtain ⟨qk, qs, qz, qzc, qct, qsm, qP, qQ⟩ := q
  have hg1 : w.heap.size + 1 < w0.heap.size := hl1
  have hg2 : w.heap.size + 1 + 1 < w0.heap.size := hl2
  have hg3 : w.heap.size + 1 + 1 + 1 < w0.heap.size := hl3
  obtain ⟨y0, y1, y2, y3, y4, y5, y6, y7⟩ := HX3.out.2.1.cells
  obtain ⟨f0, f1, f2, f3, f4, f5, f6, f7⟩ := HX3.out.2.1.frozen
  have e1 := HX3.out.2.1.lt
  clear hb3 hA2 hB2 nA2 nB2 hs3 hl0 hl1 hl2 hl3 m0 hsz n01 n10
  simp only [hvA]
  go_upto_region 7 with fail
  have HX4 := Lib.hid (And.intro (HX3.out.1.off8 (show w.heap.size ≠ w.heap.size + 1 by omega) (.int .i64 qk) (.int .i64 qs) (.int .i64 qz) (.int .u64 qzc) (.int .u64 qct) (.int .i64 qsm) (.slice A2 qP.length c2) (.slice B2 qQ.length d2)) (And.intro (HX3.out.2.1.put8 (.int .i64 qk) (.int .i64 qs) (.int .i64 qz) (.int .u64 qzc) (.int .u64 qct) (.int .i64 qsm) (.slice A2 qP.length c2) (.slice B2 qQ.length d2)) (And.intro (HX3.out.2.2.1.off8 (show w.heap.size + 1 + 1 ≠ w.heap.size + 1 by omega) (.int .i64 qk) (.int .i64 qs) (.int .i64 qz) (.int .u64 qzc) (.int .u64 qct) (.int .i64 qsm) (.slice A2 qP.length c2) (.slice B2 qQ.length d2)) (HX3.out.2.2.2.off8 (show w.heap.size + 1 + 1 + 1 ≠ w.heap.size + 1 by omega) (.int .i64 qk) (.int .i64 qs) (.int .i64 qz) (.int .u64 qzc) (.int .u64 qct) (.int .i64 qsm) (.slice A2 qP.length c2) (.slice B2 qQ.length d2)))))
  have HB4 := Lib.hid (below_set8 HB3.out (by omega : w.heap.size ≤ w.heap.size + 1) (.int .i64 qk) (.int .i64 qs) (.int .i64 qz) (.int .u64 qzc) (.int .u64 qct) (.int .i64 qsm) (.slice A2 qP.length c2) (.slice B2 qQ.length d2))
  have HA4 := Lib.hid (And.intro (And.intro (HA3.out.1.1.set8 (HN3.out.1.1.ne hg1) (.int .i64 qk) (.int .i64 qs) (.int .i64 qz) (.int .u64 qzc) (.int .u64 qct) (.int .i64 qsm) (.slice A2 qP.length c2) (.slice B2 qQ.length d2)) (HA3.out.1.2.set8 (HN3.out.1.2.ne hg1) (.int .i64 qk) (.int .i64 qs) (.int .i64 qz) (.int .u64 qzc) (.int .u64 qct) (.int .i64 qsm) (.slice A2 qP.length c2) (.slice B2 qQ.length d2))) (And.intro (HA3.out.2.1.set8 (HN3.out.2.1.ne hg1) (.int .i64 qk) (.int .i64 qs) (.int .i64 qz) (.int .u64 qzc) (.int .u64 qct) (.int .i64 qsm) (.slice A2 qP.length c2) (.slice B2 qQ.length d2)) (HA3.out.2.2.set8 (HN3.out.2.2.ne hg1) (.int .i64 qk) (.int .i64 qs) (.int .i64 qz) (.int .u64 qzc) (.int .u64 qct) (.int .i64 qsm) (.slice A2 qP.length c2) (.slice B2 qQ.length d2))))
  generalize hW : ((((((((w3.setCell ⟨w.heap.size + 1, 0, none⟩ (.int .i64 qk)).setCell ⟨w.heap.size + 1, 1, none⟩ (.int .i64 qs)).setCell ⟨w.heap.size + 1, 2, none⟩ (.int .i64 qz)).setCell ⟨w.heap.size + 1, 3, none⟩ (.int .u64 qzc)).setCell ⟨w.heap.size + 1, 4, none⟩ (.int .u64 qct)).setCell ⟨w.heap.size + 1, 5, none⟩ (.int .i64 qsm)).setCell ⟨w.heap.size + 1, 6, none⟩ (.slice A2 qP.length c2)).setCell ⟨w.heap.size + 1, 7, none⟩ (.slice B2 qQ.length d2)) = w4
  have hW' : set8 w3 (w.heap.size + 1) (.int .i64 qk) (.int .i64 qs) (.int .i64 qz) (.int .u64 qzc) (.int .u64 qct) (.int .i64 qsm) (.slice A2 qP.length c2) (.slice B2 qQ.length d2) = w4 := hW
  rw [hW'] at HX4 HB4 HA4
  clear hW hW' HX3 HB3 HA3 y0 y1 y2 y3 y4 y5 y6 y7 f0 f1 f2 f3 f4 f5 f6 f7 e1
  have HE := Lib.hid (show RetT w ⟨rk, rs, rz, rzc, rct, rsm, rP, rQ⟩ ⟨qk, qs, qz, qzc, qct, qsm, qP, qQ⟩ 0 (.returned (.tuple #[.agg #[.int .i64 rk, .int .i64 rs, .int .i64 rz, .int .u64 rzc, .int .u64 rct, .int .i64 rsm, .slice A1 rP.length c1, .slice B1 rQ.length d1], .agg #[.int .i64 qk, .int .i64 qs, .int .i64 qz, .int .u64 qzc, .int .u64 qct, .int .i64 qsm, .slice A2 qP.length c2, .slice B2 qQ.length d2], .int .i64 0])) (set8 (set8 w4 (w.heap.size + 1 + 1) (.int .i64 rk) (.int .i64 rs) (.int .i64 rz) (.int .u64 rzc) (.int .u64 rct) (.int .i64 rsm) (.slice A1 rP.length c1) (.slice B1 rQ.length d1)) (w.heap.size + 1 + 1 + 1) (.int .i64 qk) (.int .i64 qs) (.int .i64 qz) (.int .u64 qzc) (.int .u64 qct) (.int .i64 qsm) (.slice A2 qP.length c2) (.slice B2 qQ.length d2)) from
    ⟨A1, B1, A2, B2, c1, d1, c2, d2, rfl, ⟨(HA4.out.1.1.set8 (HN3.out.1.1.ne hg2) (.int .i64 rk) (.int .i64 rs) (.int .i64 rz) (.int .u64 rzc) (.int .u64 rct) (.int .i64 rsm) (.slice A1 rP.length c1) (.slice B1 rQ.length d1)).set8 (HN3.out.1.1.ne hg3) (.int .i64 qk) (.int .i64 qs) (.int .i64 qz) (.int .u64 qzc) (.int .u64 qct) (.int .i64 qsm) (.slice A2 qP.length c2) (.slice B2 qQ.length d2), (HA4.out.1.2.set8 (HN3.out.1.2.ne hg2) (.int .i64 rk) (.int .i64 rs) (.int .i64 rz) (.int .u64 rzc) (.int .u64 rct) (.int .i64 rsm) (.slice A1 rP.length c1) (.slice B1 rQ.length d1)).set8 (HN3.out.1.2.ne hg3) (.int .i64 qk) (.int .i64 qs) (.int .i64 qz) (.int .u64 qzc) (.int .u64 qct) (.int .i64 qsm) (.slice A2 qP.length c2) (.slice B2 qQ.length d2), (HA4.out.2.1.set8 (HN3.out.2.1.ne hg2) (.int .i64 rk) (.int .i64 rs) (.int .i64 rz) (.int .u64 rzc) (.int .u64 rct) (.int .i64 rsm) (.slice A1 rP.length c1) (.slice B1 rQ.length d1)).set8 (HN3.out.2.1.ne hg3) (.int .i64 qk) (.int .i64 qs) (.int .i64 qz) (.int .u64 qzc) (.int .u64 qct) (.int .i64 qsm) (.slice A2 qP.length c2) (.slice B2 qQ.length d2), (HA4.out.2.2.set8 (HN3.out.2.2.ne hg2) (.int .i64 rk) (.int .i64 rs) (.int .i64 rz) (.int .u64 rzc) (.int .u64 rct) (.int .i64 rsm) (.slice A1 rP.length c1) (.slice B1 rQ.length d1)).set8 (HN3.out.2.2.ne hg3) (.int .i64 qk) (.int .i64 qs) (.int .i64 qz) (.int .u64 qzc) (.int .u64 qct) (.int .i64 qsm) (.slice A2 qP.length c2) (.slice B2 qQ.length d2)⟩,
      below_set8 (below_set8 HB4.out (by omega : w.heap.size ≤ w.heap.size + 1 + 1) (.int .i64 rk) (.int .i64 rs) (.int .i64 rz) (.int .u64 rzc) (.int .u64 rct) (.int .i64 rsm) (.slice A1 rP.length c1) (.slice B1 rQ.length d1)) (by omega : w.heap.size ≤ w.heap.size + 1 + 1 + 1) (.int .i64 qk) (.int .i64 qs) (.int .i64 qz) (.int .u64 qzc) (.int .u64 qct) (.int .i64 qsm) (.slice A2 qP.length c2) (.slice B2 qQ.length d2), HN3.out.1.1.mono (by omega), HN3.out.1.2.mono (by omega), HN3.out.2.1.mono (by omega), HN3.out.2.2.mono (by omega)⟩)
  have HF := Lib.hid (And.intro (Box.off8 (HX4.out.2.2.1.put8 (.int .i64 rk) (.int .i64 rs) (.int .i64 rz) (.int .u64 rzc) (.int .u64 rct) (.int .i64 rsm) (.slice A1 rP.length c1) (.slice B1 rQ.length d1)) (show w.heap.size + 1 + 1 ≠ w.heap.size + 1 + 1 + 1 by omega) (.int .i64 qk) (.int .i64 qs) (.int .i64 qz) (.int .u64 qzc) (.int .u64 qct) (.int .i64 qsm) (.slice A2 qP.length c2) (.slice B2 qQ.length d2)) (Box.put8 (HX4.out.2.2.2.off8 (show w.heap.size + 1 + 1 + 1 ≠ w.heap.size + 1 + 1 by omega) (.int .i64 rk) (.int .i64 rs) (.int .i64 rz) (.int .u64 rzc) (.int .u64 rct) (.int .i64 rsm) (.slice A1 rP.length c1) (.slice B1 rQ.length d1)) (.int .i64 qk) (.int .i64 qs) (.int .i64 qz) (.int .u64 qzc) (.int .u64 qct) (.int .i64 qsm) (.slice A2 qP.length c2) (.slice B2 qQ.length d2)))
  obtain ⟨x0, x1, x2, x3, x4, x5, x6, x7⟩ := HX4.out.1.cells
  obtain ⟨y0, y1, y2, y3, y4, y5, y6, y7⟩ := HX4.out.2.1.cells
  obtain ⟨z0, z1, z2, z3, z4, z5, z6, z7⟩ := HX4.out.2.2.1.cells
  obtain ⟨g0, g1, g2, g3, g4, g5, g6, g7⟩ := HX4.out.2.2.1.frozen
  obtain ⟨t0, t1, t2, t3, t4, t5, t6, t7⟩ := HX4.out.2.2.2.cells
  obtain ⟨h0, h1, h2, h3, h4, h5, h6, h7⟩ := HX4.out.2.2.2.frozen
  have e0 := HX4.out.1.lt
  have e1 := HX4.out.2.1.lt
  have e2 := HX4.out.2.2.1.lt
  have e3 := HX4.out.2.2.2.lt
  clear hg1 hg2 hg3
  go_region_with (fail)
  all_goals (go_wp2_with fail)
  all_goals
    clear x0 x1 x2 x3 x4 x5 x6 x7 y0 y1 y2 y3 y4 y5 y6 y7 z0 z1 z2 z3 z4 z5 z6 z7 t0 t1 t2 t3 t4 t5 t6 t7 g0 g1 g2 g3 g4 g5 g6 g7 h0 h1 h2 h3 h4 h5 h6 h7 e0 e1 e2 e3
    generalize hW : ((((((((((((((((w4.setCell ⟨w.heap.size + 1 + 1, 0, none⟩ (.int .i64 rk)).setCell ⟨w.heap.size + 1 + 1, 1, none⟩ (.int .i64 rs)).setCell ⟨w.heap.size + 1 + 1, 2, none⟩ (.int .i64 rz)).setCell ⟨w.heap.size + 1 + 1, 3, none⟩ (.int .u64 rzc)).setCell ⟨w.heap.size + 1 + 1, 4, none⟩ (.int .u64 rct)).setCell ⟨w.heap.size + 1 + 1, 5, none⟩ (.int .i64 rsm)).setCell ⟨w.heap.size + 1 + 1, 6, none⟩ (.slice A1 rP.length c1)).setCell ⟨w.heap.size + 1 + 1, 7, none⟩ (.slice B1 rQ.length d1)).setCell ⟨w.heap.size + 1 + 1 + 1, 0, none⟩ (.int .i64 qk)).setCell ⟨w.heap.size + 1 + 1 + 1, 1, none⟩ (.int .i64 qs)).setCell ⟨w.heap.size + 1 + 1 + 1, 2, none⟩ (.int .i64 qz)).setCell ⟨w.heap.size + 1 + 1 + 1, 3, none⟩ (.int .u64 qzc)).setCell ⟨w.heap.size + 1 + 1 + 1, 4, none⟩ (.int .u64 qct)).setCell ⟨w.heap.size + 1 + 1 + 1, 5, none⟩ (.int .i64 qsm)).setCell ⟨w.heap.size + 1 + 1 + 1, 6, none⟩ (.slice A2 qP.length c2)).setCell ⟨w.heap.size + 1 + 1 + 1, 7, none⟩ (.slice B2 qQ.length d2)) = w5
    have hW' : set8 (set8 w4 (w.heap.size + 1 + 1) (.int .i64 rk) (.int .i64 rs) (.int .i64 rz) (.int .u64 rzc) (.int .u64 rct) (.int .i64 rsm) (.slice A1 rP.length c1) (.slice B1 rQ.length d1)) (w.heap.size + 1 + 1 + 1) (.int .i64 qk) (.int .i64 qs) (.int .i64 qz) (.int .u64 qzc) (.int .u64 qct) (.int .i64 qsm) (.slice A2 qP.length c2) (.slice B2 qQ.length d2) = w5 := hW
    rw [hW'] at HE HF
    obtain ⟨z0, z1, z2, z3, z4, z5, z6, z7⟩ := HF.out.1.cells
    obtain ⟨t0, t1, t2, t3, t4, t5, t6, t7⟩ := HF.out.2.cells
    refine bodyPost_ret (v := .tuple #[.agg #[.int .i64 rk, .int .i64 rs, .int .i64 rz, .int .u64 rzc, .int .u64 rct, .int .i64 rsm, .slice A1 rP.length c1, .slice B1 rQ.length d1], .agg #[.int .i64 qk, .int .i64 qs, .int .i64 qz, .int .u64 qzc, .int .u64 qct, .int .i64 qsm, .slice A2 qP.length c2, .slice B2 qQ.length d2], .int .i64 0]) (by simp [results, Tryz.results141, go_sem, z0, z1, z2, z3, z4, z5, z6, z7, t0, t1, t2, t3, t4, t5, t6, t7]) rfl HE.out.drew
set_option maxHeartbeats 4000000 in
set_option maxRecDepth 100000 in
theorem mboth_widen (u : Int) (k s z zc ct sm : Int) (P Q : List (Int × Int)) (k' s' z' zc' ct' sm' : Int) (P' Q' : List (Int × Int)) (r q : HV) (A B A' B' : Option Addr) (c d c' d' : Nat) (w : World)
    (h1 : ∀ (W : World), Below w.heap.size w W → Calls Tryz.prog 143 #[.agg #[.int .i64 k, .int .i64 s, .int .i64 z, .int .u64 zc, .int .u64 ct, .int .i64 sm, .slice A P.length c, .slice B Q.length d], .int .i64 u] W (RetH W r 0))
    (h2 : ∀ (W : World), Below w.heap.size w W → Calls Tryz.prog 143 #[.agg #[.int .i64 k', .int .i64 s', .int .i64 z', .int .u64 zc', .int .u64 ct', .int .i64 sm', .slice A' P'.length c', .slice B' Q'.length d'], .int .i64 u] W (RetH W q 0)) :
    Calls Tryz.prog 141 #[.agg #[.int .i64 k, .int .i64 s, .int .i64 z, .int .u64 zc, .int .u64 ct, .int .i64 sm, .slice A P.length c, .slice B Q.length d], .agg #[.int .i64 k', .int .i64 s', .int .i64 z', .int .u64 zc', .int .u64 ct', .int .i64 sm', .slice A' P'.length c', .slice B' Q'.length d'], .func (.func 143) #[] #[], .int .i64 u] w (RetT w r q 0) := by
  have H1 := Lib.hid h1
  have H2 := Lib.hid h2
  have b0 := (((Box.new w (.int .i64 k) (.int .i64 s) (.int .i64 z) (.int .u64 zc) (.int .u64 ct) (.int .i64 sm) (.slice A P.length c) (.slice B Q.length d)).alloc (.cells #[.int .i64 k', .int .i64 s', .int .i64 z', .int .u64 zc', .int .u64 ct', .int .i64 sm', .slice A' P'.length c', .slice B' Q'.length d'] 39)).alloc (.cells #[.int .i64 0, .int .i64 0, .int .i64 0, .int .u64 0, .int .u64 0, .int .i64 0, .slice none 0 0, .slice none 0 0] 39)).alloc (.cells #[.int .i64 0, .int .i64 0, .int .i64 0, .int .u64 0, .int .u64 0, .int .i64 0, .slice none 0 0, .slice none 0 0] 39)
  have b1 := ((Box.newAt (w.alloc (.cells #[.int .i64 k, .int .i64 s, .int .i64 z, .int .u64 zc, .int .u64 ct, .int .i64 sm, .slice A P.length c, .slice B Q.length d] 39)) (w.heap.size + 1) (by simp) (.int .i64 k') (.int .i64 s') (.int .i64 z') (.int .u64 zc') (.int .u64 ct') (.int .i64 sm') (.slice A' P'.length c') (.slice B' Q'.length d')).alloc (.cells #[.int .i64 0, .int .i64 0, .int .i64 0, .int .u64 0, .int .u64 0, .int .i64 0, .slice none 0 0, .slice none 0 0] 39)).alloc (.cells #[.int .i64 0, .int .i64 0, .int .i64 0, .int .u64 0, .int .u64 0, .int .i64 0, .slice none 0 0, .slice none 0 0] 39)
  have b2 := (Box.newAt ((w.alloc (.cells #[.int .i64 k, .int .i64 s, .int .i64 z, .int .u64 zc, .int .u64 ct, .int .i64 sm, .slice A P.length c, .slice B Q.length d] 39)).alloc (.cells #[.int .i64 k', .int .i64 s', .int .i64 z', .int .u64 zc', .int .u64 ct', .int .i64 sm', .slice A' P'.length c', .slice B' Q'.length d'] 39)) (w.heap.size + 1 + 1) (by simp) (.int .i64 0) (.int .i64 0) (.int .i64 0) (.int .u64 0) (.int .u64 0) (.int .i64 0) (.slice none 0 0) (.slice none 0 0)).alloc (.cells #[.int .i64 0, .int .i64 0, .int .i64 0, .int .u64 0, .int .u64 0, .int .i64 0, .slice none 0 0, .slice none 0 0] 39)
  have b3 := Box.newAt (((w.alloc (.cells #[.int .i64 k, .int .i64 s, .int .i64 z, .int .u64 zc, .int .u64 ct, .int .i64 sm, .slice A P.length c, .slice B Q.length d] 39)).alloc (.cells #[.int .i64 k', .int .i64 s', .int .i64 z', .int .u64 zc', .int .u64 ct', .int .i64 sm', .slice A' P'.length c', .slice B' Q'.length d'] 39)).alloc (.cells #[.int .i64 0, .int .i64 0, .int .i64 0, .int .u64 0, .int .u64 0, .int .i64 0, .slice none 0 0, .slice none 0 0] 39)) (w.heap.size + 1 + 1 + 1) (by simp) (.int .i64 0) (.int .i64 0) (.int .i64 0) (.int .u64 0) (.int .u64 0) (.int .i64 0) (.slice none 0 0) (.slice none 0 0)
  have hb := ((((Below.refl w.heap.size w).alloc (Nat.le_refl _) (.cells #[.int .i64 k, .int .i64 s, .int .i64 z, .int .u64 zc, .int .u64 ct, .int .i64 sm, .slice A P.length c, .slice B Q.length d] 39)).alloc (by simp) (.cells #[.int .i64 k', .int .i64 s', .int .i64 z', .int .u64 zc', .int .u64 ct', .int .i64 sm', .slice A' P'.length c', .slice B' Q'.length d'] 39)).alloc (by simp; omega) (.cells #[.int .i64 0, .int .i64 0, .int .i64 0, .int .u64 0, .int .u64 0, .int .i64 0, .slice none 0 0, .slice none 0 0] 39)).alloc (by simp; omega) (.cells #[.int .i64 0, .int .i64 0, .int .i64 0, .int .u64 0, .int .u64 0, .int .i64 0, .slice none 0 0, .slice none 0 0] 39)
  have HX := Lib.hid (And.intro (And.intro b0 b1) (And.intro b2 b3))
  have HB := Lib.hid hb
  clear h1 h2 b0 b1 b2 b3 hb
  go_enter Tryz.func141, Tryz.ntmps141
  go_wp2_with fail
  generalize ((((w.alloc (.cells #[.int .i64 k, .int .i64 s, .int .i64 z, .int .u64 zc, .int .u64 ct, .int .i64 sm, .slice A P.length c, .slice B Q.length d] 39)).alloc (.cells #[.int .i64 k', .int .i64 s', .int .i64 z', .int .u64 zc', .int .u64 ct', .int .i64 sm', .slice A' P'.length c', .slice B' Q'.length d'] 39)).alloc (.cells #[.int .i64 0, .int .i64 0, .int .i64 0, .int .u64 0, .int .u64 0, .int .i64 0, .slice none 0 0, .slice none 0 0] 39)).alloc (.cells #[.int .i64 0, .int .i64 0, .int .i64 0, .int .u64 0, .int .u64 0, .int .i64 0, .slice none 0 0, .slice none 0 0] 39)) = w0 at *
  refine (H1.out w0 HB.out).mono ?_
  rintro e w1 ⟨A1, B1, c1, d1, rfl, hA1, hB1, hb1, nA1, nB1⟩
  have hl0 := HX.out.1.1.lt
  have hl1 := HX.out.1.2.lt
  have hl2 := HX.out.2.1.lt
  have hl3 := HX.out.2.2.lt
  have n01 : w.heap.size ≠ w.heap.size + 1 := by omega
  have n10 : w.heap.size + 1 ≠ w.heap.size := by omega
  have HX1 := Lib.hid (And.intro (And.intro (HX.out.1.1.below hb1) (HX.out.1.2.below hb1)) (And.intro (HX.out.2.1.below hb1) (HX.out.2.2.below hb1)))
  have HB1 := Lib.hid (HB.out.trans (hb1.mono HB.out.size))
  have HA1 := Lib.hid (And.intro (And.intro hA1 hB1) (And.intro nA1 nB1))
  obtain ⟨x0, x1, x2, x3, x4, x5, x6, x7⟩ := HX1.out.1.2.cells
  obtain ⟨y0, y1, y2, y3, y4, y5, y6, y7⟩ := HX1.out.1.1.cells
  obtain ⟨f0, f1, f2, f3, f4, f5, f6, f7⟩ := HX1.out.1.1.frozen
  have hlt := HX1.out.1.1.lt
  have hlt1 := HX1.out.1.2.lt
  have hb1s := hb1.size
  clear hb1 hA1 hB1 nA1 nB1
  obtain ⟨rk, rs, rz, rzc, rct, rsm, rP, rQ⟩ := r
  simp only [hvA]
  go_wp2_with fail
  have HX2 := Lib.hid (And.intro (HX1.out.1.2.off8 n10 (.int .i64 rk) (.int .i64 rs) (.int .i64 rz) (.int .u64 rzc) (.int .u64 rct) (.int .i64 rsm) (.slice A1 rP.length c1) (.slice B1 rQ.length d1)) (And.intro (HX1.out.2.1.off8 (show w.heap.size + 1 + 1 ≠ w.heap.size by omega) (.int .i64 rk) (.int .i64 rs) (.int .i64 rz) (.int .u64 rzc) (.int .u64 rct) (.int .i64 rsm) (.slice A1 rP.length c1) (.slice B1 rQ.length d1)) (HX1.out.2.2.off8 (show w.heap.size + 1 + 1 + 1 ≠ w.heap.size by omega) (.int .i64 rk) (.int .i64 rs) (.int .i64 rz) (.int .u64 rzc) (.int .u64 rct) (.int .i64 rsm) (.slice A1 rP.length c1) (.slice B1 rQ.length d1))))
  have HY2 := Lib.hid (HX1.out.1.1.put8 (.int .i64 rk) (.int .i64 rs) (.int .i64 rz) (.int .u64 rzc) (.int .u64 rct) (.int .i64 rsm) (.slice A1 rP.length c1) (.slice B1 rQ.length d1))
  have HB2 := Lib.hid (below_set8 HB1.out (Nat.le_refl w.heap.size) (.int .i64 rk) (.int .i64 rs) (.int .i64 rz) (.int .u64 rzc) (.int .u64 rct) (.int .i64 rsm) (.slice A1 rP.length c1) (.slice B1 rQ.length d1))
  have HA2 := Lib.hid (And.intro (HA1.out.1.1.set8 (HA1.out.2.1.ne (by omega : w.heap.size < w0.heap.size)) (.int .i64 rk) (.int .i64 rs) (.int .i64 rz) (.int .u64 rzc) (.int .u64 rct) (.int .i64 rsm) (.slice A1 rP.length c1) (.slice B1 rQ.length d1)) (HA1.out.1.2.set8 (HA1.out.2.2.ne (by omega : w.heap.size < w0.heap.size)) (.int .i64 rk) (.int .i64 rs) (.int .i64 rz) (.int .u64 rzc) (.int .u64 rct) (.int .i64 rsm) (.slice A1 rP.length c1) (.slice B1 rQ.length d1)))
  have HN := Lib.hid HA1.out.2
  have HSW := Lib.hid hb1s
  clear x0 x1 x2 x3 x4 x5 x6 x7 y0 y1 y2 y3 y4 y5 y6 y7 f0 f1 f2 f3 f4 f5 f6 f7 hlt hlt1
  have HSZ := Lib.hid (size_set8 w1 w.heap.size (.int .i64 rk) (.int .i64 rs) (.int .i64 rz) (.int .u64 rzc) (.int .u64 rct) (.int .i64 rsm) (.slice A1 rP.length c1) (.slice B1 rQ.length d1))
  generalize hW : ((((((((w1.setCell ⟨w.heap.size, 0, none⟩ (.int .i64 rk)).setCell ⟨w.heap.size, 1, none⟩ (.int .i64 rs)).setCell ⟨w.heap.size, 2, none⟩ (.int .i64 rz)).setCell ⟨w.heap.size, 3, none⟩ (.int .u64 rzc)).setCell ⟨w.heap.size, 4, none⟩ (.int .u64 rct)).setCell ⟨w.heap.size, 5, none⟩ (.int .i64 rsm)).setCell ⟨w.heap.size, 6, none⟩ (.slice A1 rP.length c1)).setCell ⟨w.heap.size, 7, none⟩ (.slice B1 rQ.length d1)) = w2
  have hW' : set8 w1 w.heap.size (.int .i64 rk) (.int .i64 rs) (.int .i64 rz) (.int .u64 rzc) (.int .u64 rct) (.int .i64 rsm) (.slice A1 rP.length c1) (.slice B1 rQ.length d1) = w2 := hW
  rw [hW'] at HX2 HY2 HB2 HA2 HSZ
  clear hW hW' HX1 HB1 HA1
  refine (H2.out w2 HB2.out).mono ?_
  rintro e w3 ⟨A2, B2, c2, d2, rfl, hA2, hB2, hb3, nA2, nB2⟩
  have hsz := HSZ.out
  have hs3 := hb3.size
  have HX3 := Lib.hid (And.intro (HY2.out.below hb3) (And.intro (HX2.out.1.below hb3) (And.intro (HX2.out.2.1.below hb3) (HX2.out.2.2.below hb3))))
  have HB3 := Lib.hid (HB2.out.trans (hb3.mono HB2.out.size))
  have m0 : w0.heap.size ≤ w2.heap.size := by have := HSW.out; omega
  have HA3 := Lib.hid (And.intro (And.intro (HA2.out.1.below hb3) (HA2.out.2.below hb3)) (And.intro hA2 hB2))
  have HN3 := Lib.hid (And.intro HN.out (And.intro (nA2.mono m0) (nB2.mono m0)))
  obtain ⟨qk, qs, qz, qzc, qct, qsm, qP, qQ⟩ := q
  have hg1 : w.heap.size + 1 < w0.heap.size := hl1
  have hg2 : w.heap.size + 1 + 1 < w0.heap.size := hl2
  have hg3 : w.heap.size + 1 + 1 + 1 < w0.heap.size := hl3
  obtain ⟨y0, y1, y2, y3, y4, y5, y6, y7⟩ := HX3.out.2.1.cells
  obtain ⟨f0, f1, f2, f3, f4, f5, f6, f7⟩ := HX3.out.2.1.frozen
  have e1 := HX3.out.2.1.lt
  clear hb3 hA2 hB2 nA2 nB2 hs3 hl0 hl1 hl2 hl3 m0 hsz n01 n10
  simp only [hvA]
  go_upto_region 7 with fail
  have HX4 := Lib.hid (And.intro (HX3.out.1.off8 (show w.heap.size ≠ w.heap.size + 1 by omega) (.int .i64 qk) (.int .i64 qs) (.int .i64 qz) (.int .u64 qzc) (.int .u64 qct) (.int .i64 qsm) (.slice A2 qP.length c2) (.slice B2 qQ.length d2)) (And.intro (HX3.out.2.1.put8 (.int .i64 qk) (.int .i64 qs) (.int .i64 qz) (.int .u64 qzc) (.int .u64 qct) (.int .i64 qsm) (.slice A2 qP.length c2) (.slice B2 qQ.length d2)) (And.intro (HX3.out.2.2.1.off8 (show w.heap.size + 1 + 1 ≠ w.heap.size + 1 by omega) (.int .i64 qk) (.int .i64 qs) (.int .i64 qz) (.int .u64 qzc) (.int .u64 qct) (.int .i64 qsm) (.slice A2 qP.length c2) (.slice B2 qQ.length d2)) (HX3.out.2.2.2.off8 (show w.heap.size + 1 + 1 + 1 ≠ w.heap.size + 1 by omega) (.int .i64 qk) (.int .i64 qs) (.int .i64 qz) (.int .u64 qzc) (.int .u64 qct) (.int .i64 qsm) (.slice A2 qP.length c2) (.slice B2 qQ.length d2)))))
  have HB4 := Lib.hid (below_set8 HB3.out (by omega : w.heap.size ≤ w.heap.size + 1) (.int .i64 qk) (.int .i64 qs) (.int .i64 qz) (.int .u64 qzc) (.int .u64 qct) (.int .i64 qsm) (.slice A2 qP.length c2) (.slice B2 qQ.length d2))
  have HA4 := Lib.hid (And.intro (And.intro (HA3.out.1.1.set8 (HN3.out.1.1.ne hg1) (.int .i64 qk) (.int .i64 qs) (.int .i64 qz) (.int .u64 qzc) (.int .u64 qct) (.int .i64 qsm) (.slice A2 qP.length c2) (.slice B2 qQ.length d2)) (HA3.out.1.2.set8 (HN3.out.1.2.ne hg1) (.int .i64 qk) (.int .i64 qs) (.int .i64 qz) (.int .u64 qzc) (.int .u64 qct) (.int .i64 qsm) (.slice A2 qP.length c2) (.slice B2 qQ.length d2))) (And.intro (HA3.out.2.1.set8 (HN3.out.2.1.ne hg1) (.int .i64 qk) (.int .i64 qs) (.int .i64 qz) (.int .u64 qzc) (.int .u64 qct) (.int .i64 qsm) (.slice A2 qP.length c2) (.slice B2 qQ.length d2)) (HA3.out.2.2.set8 (HN3.out.2.2.ne hg1) (.int .i64 qk) (.int .i64 qs) (.int .i64 qz) (.int .u64 qzc) (.int .u64 qct) (.int .i64 qsm) (.slice A2 qP.length c2) (.slice B2 qQ.length d2))))
  generalize hW : ((((((((w3.setCell ⟨w.heap.size + 1, 0, none⟩ (.int .i64 qk)).setCell ⟨w.heap.size + 1, 1, none⟩ (.int .i64 qs)).setCell ⟨w.heap.size + 1, 2, none⟩ (.int .i64 qz)).setCell ⟨w.heap.size + 1, 3, none⟩ (.int .u64 qzc)).setCell ⟨w.heap.size + 1, 4, none⟩ (.int .u64 qct)).setCell ⟨w.heap.size + 1, 5, none⟩ (.int .i64 qsm)).setCell ⟨w.heap.size + 1, 6, none⟩ (.slice A2 qP.length c2)).setCell ⟨w.heap.size + 1, 7, none⟩ (.slice B2 qQ.length d2)) = w4
  have hW' : set8 w3 (w.heap.size + 1) (.int .i64 qk) (.int .i64 qs) (.int .i64 qz) (.int .u64 qzc) (.int .u64 qct) (.int .i64 qsm) (.slice A2 qP.length c2) (.slice B2 qQ.length d2) = w4 := hW
  rw [hW'] at HX4 HB4 HA4
  clear hW hW' HX3 HB3 HA3 y0 y1 y2 y3 y4 y5 y6 y7 f0 f1 f2 f3 f4 f5 f6 f7 e1
  have HE := Lib.hid (show RetT w ⟨rk, rs, rz, rzc, rct, rsm, rP, rQ⟩ ⟨qk, qs, qz, qzc, qct, qsm, qP, qQ⟩ 0 (.returned (.tuple #[.agg #[.int .i64 rk, .int .i64 rs, .int .i64 rz, .int .u64 rzc, .int .u64 rct, .int .i64 rsm, .slice A1 rP.length c1, .slice B1 rQ.length d1], .agg #[.int .i64 qk, .int .i64 qs, .int .i64 qz, .int .u64 qzc, .int .u64 qct, .int .i64 qsm, .slice A2 qP.length c2, .slice B2 qQ.length d2], .int .i64 0])) (set8 (set8 w4 (w.heap.size + 1 + 1) (.int .i64 rk) (.int .i64 rs) (.int .i64 rz) (.int .u64 rzc) (.int .u64 rct) (.int .i64 rsm) (.slice A1 rP.length c1) (.slice B1 rQ.length d1)) (w.heap.size + 1 + 1 + 1) (.int .i64 qk) (.int .i64 qs) (.int .i64 qz) (.int .u64 qzc) (.int .u64 qct) (.int .i64 qsm) (.slice A2 qP.length c2) (.slice B2 qQ.length d2)) from
    ⟨A1, B1, A2, B2, c1, d1, c2, d2, rfl, ⟨(HA4.out.1.1.set8 (HN3.out.1.1.ne hg2) (.int .i64 rk) (.int .i64 rs) (.int .i64 rz) (.int .u64 rzc) (.int .u64 rct) (.int .i64 rsm) (.slice A1 rP.length c1) (.slice B1 rQ.length d1)).set8 (HN3.out.1.1.ne hg3) (.int .i64 qk) (.int .i64 qs) (.int .i64 qz) (.int .u64 qzc) (.int .u64 qct) (.int .i64 qsm) (.slice A2 qP.length c2) (.slice B2 qQ.length d2), (HA4.out.1.2.set8 (HN3.out.1.2.ne hg2) (.int .i64 rk) (.int .i64 rs) (.int .i64 rz) (.int .u64 rzc) (.int .u64 rct) (.int .i64 rsm) (.slice A1 rP.length c1) (.slice B1 rQ.length d1)).set8 (HN3.out.1.2.ne hg3) (.int .i64 qk) (.int .i64 qs) (.int .i64 qz) (.int .u64 qzc) (.int .u64 qct) (.int .i64 qsm) (.slice A2 qP.length c2) (.slice B2 qQ.length d2), (HA4.out.2.1.set8 (HN3.out.2.1.ne hg2) (.int .i64 rk) (.int .i64 rs) (.int .i64 rz) (.int .u64 rzc) (.int .u64 rct) (.int .i64 rsm) (.slice A1 rP.length c1) (.slice B1 rQ.length d1)).set8 (HN3.out.2.1.ne hg3) (.int .i64 qk) (.int .i64 qs) (.int .i64 qz) (.int .u64 qzc) (.int .u64 qct) (.int .i64 qsm) (.slice A2 qP.length c2) (.slice B2 qQ.length d2), (HA4.out.2.2.set8 (HN3.out.2.2.ne hg2) (.int .i64 rk) (.int .i64 rs) (.int .i64 rz) (.int .u64 rzc) (.int .u64 rct) (.int .i64 rsm) (.slice A1 rP.length c1) (.slice B1 rQ.length d1)).set8 (HN3.out.2.2.ne hg3) (.int .i64 qk) (.int .i64 qs) (.int .i64 qz) (.int .u64 qzc) (.int .u64 qct) (.int .i64 qsm) (.slice A2 qP.length c2) (.slice B2 qQ.length d2)⟩,
      below_set8 (below_set8 HB4.out (by omega : w.heap.size ≤ w.heap.size + 1 + 1) (.int .i64 rk) (.int .i64 rs) (.int .i64 rz) (.int .u64 rzc) (.int .u64 rct) (.int .i64 rsm) (.slice A1 rP.length c1) (.slice B1 rQ.length d1)) (by omega : w.heap.size ≤ w.heap.size + 1 + 1 + 1) (.int .i64 qk) (.int .i64 qs) (.int .i64 qz) (.int .u64 qzc) (.int .u64 qct) (.int .i64 qsm) (.slice A2 qP.length c2) (.slice B2 qQ.length d2), HN3.out.1.1.mono (by omega), HN3.out.1.2.mono (by omega), HN3.out.2.1.mono (by omega), HN3.out.2.2.mono (by omega)⟩)
  have HF := Lib.hid (And.intro (Box.off8 (HX4.out.2.2.1.put8 (.int .i64 rk) (.int .i64 rs) (.int .i64 rz) (.int .u64 rzc) (.int .u64 rct) (.int .i64 rsm) (.slice A1 rP.length c1) (.slice B1 rQ.length d1)) (show w.heap.size + 1 + 1 ≠ w.heap.size + 1 + 1 + 1 by omega) (.int .i64 qk) (.int .i64 qs) (.int .i64 qz) (.int .u64 qzc) (.int .u64 qct) (.int .i64 qsm) (.slice A2 qP.length c2) (.slice B2 qQ.length d2)) (Box.put8 (HX4.out.2.2.2.off8 (show w.heap.size + 1 + 1 + 1 ≠ w.heap.size + 1 + 1 by omega) (.int .i64 rk) (.int .i64 rs) (.int .i64 rz) (.int .u64 rzc) (.int .u64 rct) (.int .i64 rsm) (.slice A1 rP.length c1) (.slice B1 rQ.length d1)) (.int .i64 qk) (.int .i64 qs) (.int .i64 qz) (.int .u64 qzc) (.int .u64 qct) (.int .i64 qsm) (.slice A2 qP.length c2) (.slice B2 qQ.length d2)))
  obtain ⟨x0, x1, x2, x3, x4, x5, x6, x7⟩ := HX4.out.1.cells
  obtain ⟨y0, y1, y2, y3, y4, y5, y6, y7⟩ := HX4.out.2.1.cells
  obtain ⟨z0, z1, z2, z3, z4, z5, z6, z7⟩ := HX4.out.2.2.1.cells
  obtain ⟨g0, g1, g2, g3, g4, g5, g6, g7⟩ := HX4.out.2.2.1.frozen
  obtain ⟨t0, t1, t2, t3, t4, t5, t6, t7⟩ := HX4.out.2.2.2.cells
  obtain ⟨h0, h1, h2, h3, h4, h5, h6, h7⟩ := HX4.out.2.2.2.frozen
  have e0 := HX4.out.1.lt
  have e1 := HX4.out.2.1.lt
  have e2 := HX4.out.2.2.1.lt
  have e3 := HX4.out.2.2.2.lt
  clear hg1 hg2 hg3
  go_region_with (fail)
  all_goals (go_wp2_with fail)
  all_goals
    clear x0 x1 x2 x3 x4 x5 x6 x7 y0 y1 y2 y3 y4 y5 y6 y7 z0 z1 z2 z3 z4 z5 z6 z7 t0 t1 t2 t3 t4 t5 t6 t7 g0 g1 g2 g3 g4 g5 g6 g7 h0 h1 h2 h3 h4 h5 h6 h7 e0 e1 e2 e3
    generalize hW : ((((((((((((((((w4.setCell ⟨w.heap.size + 1 + 1, 0, none⟩ (.int .i64 rk)).setCell ⟨w.heap.size + 1 + 1, 1, none⟩ (.int .i64 rs)).setCell ⟨w.heap.size + 1 + 1, 2, none⟩ (.int .i64 rz)).setCell ⟨w.heap.size + 1 + 1, 3, none⟩ (.int .u64 rzc)).setCell ⟨w.heap.size + 1 + 1, 4, none⟩ (.int .u64 rct)).setCell ⟨w.heap.size + 1 + 1, 5, none⟩ (.int .i64 rsm)).setCell ⟨w.heap.size + 1 + 1, 6, none⟩ (.slice A1 rP.length c1)).setCell ⟨w.heap.size + 1 + 1, 7, none⟩ (.slice B1 rQ.length d1)).setCell ⟨w.heap.size + 1 + 1 + 1, 0, none⟩ (.int .i64 qk)).setCell ⟨w.heap.size + 1 + 1 + 1, 1, none⟩ (.int .i64 qs)).setCell ⟨w.heap.size + 1 + 1 + 1, 2, none⟩ (.int .i64 qz)).setCell ⟨w.heap.size + 1 + 1 + 1, 3, none⟩ (.int .u64 qzc)).setCell ⟨w.heap.size + 1 + 1 + 1, 4, none⟩ (.int .u64 qct)).setCell ⟨w.heap.size + 1 + 1 + 1, 5, none⟩ (.int .i64 qsm)).setCell ⟨w.heap.size + 1 + 1 + 1, 6, none⟩ (.slice A2 qP.length c2)).setCell ⟨w.heap.size + 1 + 1 + 1, 7, none⟩ (.slice B2 qQ.length d2)) = w5
    have hW' : set8 (set8 w4 (w.heap.size + 1 + 1) (.int .i64 rk) (.int .i64 rs) (.int .i64 rz) (.int .u64 rzc) (.int .u64 rct) (.int .i64 rsm) (.slice A1 rP.length c1) (.slice B1 rQ.length d1)) (w.heap.size + 1 + 1 + 1) (.int .i64 qk) (.int .i64 qs) (.int .i64 qz) (.int .u64 qzc) (.int .u64 qct) (.int .i64 qsm) (.slice A2 qP.length c2) (.slice B2 qQ.length d2) = w5 := hW
    rw [hW'] at HE HF
    obtain ⟨z0, z1, z2, z3, z4, z5, z6, z7⟩ := HF.out.1.cells
    obtain ⟨t0, t1, t2, t3, t4, t5, t6, t7⟩ := HF.out.2.cells
    refine bodyPost_ret (v := .tuple #[.agg #[.int .i64 rk, .int .i64 rs, .int .i64 rz, .int .u64 rzc, .int .u64 rct, .int .i64 rsm, .slice A1 rP.length c1, .slice B1 rQ.length d1], .agg #[.int .i64 qk, .int .i64 qs, .int .i64 qz, .int .u64 qzc, .int .u64 qct, .int .i64 qsm, .slice A2 qP.length c2, .slice B2 qQ.length d2], .int .i64 0]) (by simp [results, Tryz.results141, go_sem, z0, z1, z2, z3, z4, z5, z6, z7, t0, t1, t2, t3, t4, t5, t6, t7]) rfl HE.out.drew
end Go.Proofs.YtakomfnajeolcaaGreatDoor
