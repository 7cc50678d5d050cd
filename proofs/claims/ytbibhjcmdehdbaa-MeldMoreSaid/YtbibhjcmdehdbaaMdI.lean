/- Boxes of histograms, step by step; swallow. -/
import Derived.Test.YtbibhjcmdehdbaaMdH
namespace Go.Proofs.Ytbibhjcmdehdbaa
open Go.RowKit Go.Sort Go.Maps
set_option linter.unusedVariables false

/-- a block that holds a histogram's eight cells -/
def Box (W : World) (g : Nat) (v0 v1 v2 v3 v4 v5 v6 v7 : Value) : Prop := W.heap[g]? = some (.cells #[v0, v1, v2, v3, v4, v5, v6, v7] 25 (0, 0))
theorem Box.lt {W : World} {g : Nat} {v0 v1 v2 v3 v4 v5 v6 v7 : Value} (h : Box W g v0 v1 v2 v3 v4 v5 v6 v7) : g < W.heap.size := (Array.getElem?_eq_some_iff.1 h).1
theorem Box.below {W W' : World} {g : Nat} {v0 v1 v2 v3 v4 v5 v6 v7 : Value} (h : Box W g v0 v1 v2 v3 v4 v5 v6 v7) (hb : Below W.heap.size W W') : Box W' g v0 v1 v2 v3 v4 v5 v6 v7 := (hb.block g h.lt).trans h
theorem Box.off {W : World} {g g' : Nat} {v0 v1 v2 v3 v4 v5 v6 v7 : Value} (h : Box W g v0 v1 v2 v3 v4 v5 v6 v7) (hg : g ≠ g') (i : Nat) (u : Value) : Box (W.setCell ⟨g', i, none⟩ u) g v0 v1 v2 v3 v4 v5 v6 v7 := (heap_setCell_other W ⟨g', i, none⟩ g u hg).trans h
theorem Box.cells {W : World} {g : Nat} {v0 v1 v2 v3 v4 v5 v6 v7 : Value} (h : Box W g v0 v1 v2 v3 v4 v5 v6 v7) :
    W.cell? ⟨g, 0, none⟩ = some v0 ∧ W.cell? ⟨g, 1, none⟩ = some v1 ∧ W.cell? ⟨g, 2, none⟩ = some v2 ∧ W.cell? ⟨g, 3, none⟩ = some v3 ∧ W.cell? ⟨g, 4, none⟩ = some v4 ∧ W.cell? ⟨g, 5, none⟩ = some v5 ∧ W.cell? ⟨g, 6, none⟩ = some v6 ∧ W.cell? ⟨g, 7, none⟩ = some v7 := by
  obtain ⟨a, b, c, d, e, f, g', i, _⟩ := box8 h
  exact ⟨a, b, c, d, e, f, g', i⟩
theorem Box.frozen {W : World} {g : Nat} {v0 v1 v2 v3 v4 v5 v6 v7 : Value} (h : Box W g v0 v1 v2 v3 v4 v5 v6 v7) :
    W.frozen? ⟨g, 0, none⟩ = false ∧ W.frozen? ⟨g, 1, none⟩ = false ∧ W.frozen? ⟨g, 2, none⟩ = false ∧ W.frozen? ⟨g, 3, none⟩ = false ∧ W.frozen? ⟨g, 4, none⟩ = false ∧ W.frozen? ⟨g, 5, none⟩ = false ∧ W.frozen? ⟨g, 6, none⟩ = false ∧ W.frozen? ⟨g, 7, none⟩ = false := by
  obtain ⟨_, _, _, _, _, _, _, _, f⟩ := box8 h
  exact ⟨f 0, f 1, f 2, f 3, f 4, f 5, f 6, f 7⟩
theorem Box.set2 {W : World} {g : Nat} {v0 v1 v2 v3 v4 v5 v6 v7 : Value} (h : Box W g v0 v1 v2 v3 v4 v5 v6 v7) (u : Value) : Box (W.setCell ⟨g, 2, none⟩ u) g v0 v1 u v3 v4 v5 v6 v7 := heap_set_at h u
theorem Box.set3 {W : World} {g : Nat} {v0 v1 v2 v3 v4 v5 v6 v7 : Value} (h : Box W g v0 v1 v2 v3 v4 v5 v6 v7) (u : Value) : Box (W.setCell ⟨g, 3, none⟩ u) g v0 v1 v2 u v4 v5 v6 v7 := heap_set_at h u
theorem Box.two (w : World) (v0 v1 v2 v3 v4 v5 v6 v7 u0 u1 u2 u3 u4 u5 u6 u7 : Value) : Box ((w.alloc (.cells #[v0, v1, v2, v3, v4, v5, v6, v7] 25)).alloc (.cells #[u0, u1, u2, u3, u4, u5, u6, u7] 25)) w.heap.size v0 v1 v2 v3 v4 v5 v6 v7 ∧ Box ((w.alloc (.cells #[v0, v1, v2, v3, v4, v5, v6, v7] 25)).alloc (.cells #[u0, u1, u2, u3, u4, u5, u6, u7] 25)) (w.heap.size + 1) u0 u1 u2 u3 u4 u5 u6 u7 := by
  constructor
  · unfold Box
    rw [Below.heap_alloc _ _ _ (by simp)]; exact heap_alloc_new w _
  · have := heap_alloc_new (w.alloc (.cells #[v0, v1, v2, v3, v4, v5, v6, v7] 25)) (.cells #[u0, u1, u2, u3, u4, u5, u6, u7] 25)
    simpa [Box] using this
theorem Bk.off {w : World} {A : Option Addr} {l : List (Int × Int)} (h : Bk w A l) {g : Nat} (hg : ∀ a, A = some a → a.block ≠ g) (i : Nat) (u : Value) : Bk (w.setCell ⟨g, i, none⟩ u) A l := by
  obtain ⟨h1, h2, h3⟩ := h
  refine ⟨h1, h2, ?_⟩
  rcases h3 with h3 | ⟨b, off, e, hc⟩
  · exact .inl h3
  · have hb := hg _ e
    have hk : ∀ o, (w.setCell ⟨g, i, none⟩ u).cell? ⟨b, o, none⟩ = w.cell? ⟨b, o, none⟩ := fun o => World.cell?_of_block (a := ⟨b, o, none⟩) (heap_setCell_other w ⟨g, i, none⟩ b u hb)
    exact .inr ⟨b, off, e, fun j p hj => ⟨(hk _).trans (hc j p hj).1, (hk _).trans (hc j p hj).2⟩⟩
/-- eight cells are written -/
def set8 (W : World) (g : Nat) (u0 u1 u2 u3 u4 u5 u6 u7 : Value) : World := (((((((W.setCell ⟨g, 0, none⟩ u0).setCell ⟨g, 1, none⟩ u1).setCell ⟨g, 2, none⟩ u2).setCell ⟨g, 3, none⟩ u3).setCell ⟨g, 4, none⟩ u4).setCell ⟨g, 5, none⟩ u5).setCell ⟨g, 6, none⟩ u6).setCell ⟨g, 7, none⟩ u7
theorem Bk.set8 {w : World} {A : Option Addr} {l : List (Int × Int)} (h : Bk w A l) {g : Nat} (hg : ∀ a, A = some a → a.block ≠ g) (u0 u1 u2 u3 u4 u5 u6 u7 : Value) : Bk (set8 w g u0 u1 u2 u3 u4 u5 u6 u7) A l := by
  unfold Go.Proofs.Ytbibhjcmdehdbaa.set8
  exact (((((((h.off hg 0 _).off hg 1 _).off hg 2 _).off hg 3 _).off hg 4 _).off hg 5 _).off hg 6 _).off hg 7 _
theorem below_set8 {B : Nat} {a w : World} (h : Below B a w) {g : Nat} (hg : B ≤ g) (u0 u1 u2 u3 u4 u5 u6 u7 : Value) : Below B a (set8 w g u0 u1 u2 u3 u4 u5 u6 u7) := by
  unfold set8
  exact (((((((h.setCell (p := ⟨g, 0, none⟩) hg _).setCell (p := ⟨g, 1, none⟩) hg _).setCell (p := ⟨g, 2, none⟩) hg _).setCell (p := ⟨g, 3, none⟩) hg _).setCell (p := ⟨g, 4, none⟩) hg _).setCell (p := ⟨g, 5, none⟩) hg _).setCell (p := ⟨g, 6, none⟩) hg _).setCell (p := ⟨g, 7, none⟩) hg _
theorem NewA.mono {w w' : World} {A : Option Addr} (h : NewA w' A) (hs : w.heap.size ≤ w'.heap.size) : NewA w A := fun a ha => Nat.le_trans hs (h a ha)
theorem NewA.ne {w : World} {A : Option Addr} (h : NewA w A) {g : Nat} (hg : g < w.heap.size) : ∀ a, A = some a → a.block ≠ g := fun a ha => by have := h a ha; omega
/-- the result in its box behind the last call -/
theorem RetH.fin {w w4 w5 : World} {r : HV} {E : Int} {A B : Option Addr} {c d : Nat} {g : Nat} (hb : Below w.heap.size w w5) (hs : w.heap.size ≤ w4.heap.size) (hg : g < w4.heap.size) (hg2 : w.heap.size ≤ g) (hA : Bk w5 A r.P) (hB : Bk w5 B r.Q) (nA : NewA w4 A) (nB : NewA w4 B) (u0 u1 u2 u3 u4 u5 u6 u7 : Value) :
    RetH w r E (.returned (.tuple #[hvA r A B c d, .int .i64 E])) (set8 w5 g u0 u1 u2 u3 u4 u5 u6 u7) :=
  ⟨A, B, c, d, rfl, hA.set8 (nA.ne hg) _ _ _ _ _ _ _ _, hB.set8 (nB.ne hg) _ _ _ _ _ _ _ _, below_set8 hb hg2 _ _ _ _ _ _ _ _, nA.mono hs, nB.mono hs⟩
theorem cut_wb {h : HV} (o : Good h) (s v : Int) : (∀ p ∈ keepL s v h.P, Wb p) ∧ (∀ p ∈ keepL s v h.Q, Wb p) := ⟨fun p hp => o.wP p (List.mem_filter.1 hp).1, fun p hp => o.wQ p (List.mem_filter.1 hp).1⟩

set_option maxHeartbeats 2000000 in
set_option maxRecDepth 100000 in
theorem swallow_any (k s z zc ct sm u : Int) (A B : Option Addr) (c d : Nat) (P Q : List (Int × Int)) (w : World) (hP : Bk w A P) (hQ : Bk w B Q) (hlp : P.length ≤ 512) (hlq : Q.length ≤ 512) (g : Good ⟨k, s, z, zc, ct, sm, P, Q⟩) (hu : zr u) :
    Calls Try.prog 75 #[.agg #[.int .i64 k, .int .i64 s, .int .i64 z, .int .u64 zc, .int .u64 ct, .int .i64 sm, .slice A P.length c, .slice B Q.length d], .int .i64 u] w (RetH w (swG ⟨k, s, z, zc, ct, sm, P, Q⟩ u) 0) := by
  obtain ⟨bx, bz⟩ := Box.two w (.int .i64 k) (.int .i64 s) (.int .i64 z) (.int .u64 zc) (.int .u64 ct) (.int .i64 sm) (.slice A P.length c) (.slice B Q.length d) (.int .i64 0) (.int .i64 0) (.int .i64 0) (.int .u64 0) (.int .u64 0) (.int .i64 0) (.slice none 0 0) (.slice none 0 0)
  have hb0 : Below w.heap.size w ((w.alloc (.cells #[.int .i64 k, .int .i64 s, .int .i64 z, .int .u64 zc, .int .u64 ct, .int .i64 sm, .slice A P.length c, .slice B Q.length d] 25)).alloc (.cells #[.int .i64 0, .int .i64 0, .int .i64 0, .int .u64 0, .int .u64 0, .int .i64 0, .slice none 0 0, .slice none 0 0] 25)) := ((Below.refl _ _).alloc (Nat.le_refl _) _).alloc (by simp) _
  obtain ⟨v, hv⟩ : ∃ v, outF s (P ++ Q) u = v := ⟨_, rfl⟩
  have HV := Lib.hid hv
  have HP := Lib.hid hP
  have HQ := Lib.hid hQ
  have HB0 := Lib.hid hb0
  have HG := Lib.hid g
  have HMK := Lib.hid (mk_sw g hlp hlq hu v hv)
  have HX := Lib.hid (And.intro bx bz)
  clear hP hQ hb0 g hu hv bx bz
  go_enter Try.func75, Try.ntmps75
  go_wp2_with fail
  generalize ((w.alloc (.cells #[.int .i64 k, .int .i64 s, .int .i64 z, .int .u64 zc, .int .u64 ct, .int .i64 sm, .slice A P.length c, .slice B Q.length d] 25)).alloc (.cells #[.int .i64 0, .int .i64 0, .int .i64 0, .int .u64 0, .int .u64 0, .int .i64 0, .slice none 0 0, .slice none 0 0] 25)) = w0 at *
  refine (outside_any k s z zc ct sm u A B c d P Q w0 (HP.out.below HB0.out) (HQ.out.below HB0.out) (by omega) (by omega) HG.out.s HG.out.inPQ).mono ?_
  rintro e w1 ⟨rfl, hb1⟩
  rw [HV.out]
  have HX1 := Lib.hid (And.intro (HX.out.1.below hb1) (HX.out.2.below hb1))
  have HB1 := Lib.hid (HB0.out.trans (hb1.mono HB0.out.size))
  obtain ⟨x0, x1, x2, x3, x4, x5, x6, x7⟩ := HX1.out.1.cells
  obtain ⟨f0, f1, f2, f3, f4, f5, f6, f7⟩ := HX1.out.1.frozen
  have hlt := HX1.out.1.lt
  clear hb1
  go_wp2_with fail
  clear x0 x1 x2 x3 x4 x5 x6 x7 f0 f1 f2 f3 f4 f5 f6 f7 hlt
  have HX2 := Lib.hid (And.intro (HX1.out.1.set2 (.int .i64 v)) (HX1.out.2.off (show w.heap.size + 1 ≠ w.heap.size by omega) 2 (.int .i64 v)))
  have HB2 := Lib.hid (HB1.out.setCell (p := ⟨w.heap.size, 2, none⟩) (Nat.le_refl _) (.int .i64 v))
  clear HX1 HB1 HX
  generalize w1.setCell ⟨w.heap.size, 2, none⟩ (.int .i64 v) = w2 at *
  have hcP := HG.out.nP.cnt
  have hcQ := HG.out.nQ.cnt
  have hcc := HG.out.ct
  have hbg := HG.out.big
  have hz0 := HG.out.zc
  simp only at hcP hcQ hcc hbg hz0
  refine (above_any s v A c P w2 (HP.out.below HB2.out) (by omega) HG.out.s HG.out.iP (by omega)).mono ?_
  rintro e w3 ⟨A1, c1, rfl, hA1, hb3, nA1⟩
  have HX3 := Lib.hid (And.intro (HX2.out.1.below hb3) (HX2.out.2.below hb3))
  have HB3 := Lib.hid (HB2.out.trans (hb3.mono HB2.out.size))
  have HA1 := Lib.hid (And.intro hA1 (nA1.ne HX2.out.1.lt))
  obtain ⟨x0, x1, x2, x3, x4, x5, x6, x7⟩ := HX3.out.1.cells
  have hlt := HX3.out.1.lt
  clear hb3 hA1 nA1 HX2 HB2
  have n1 : 0 ≤ goneN s v P ∧ goneN s v P ≤ cnt P := by have := gone_bd s v HG.out.nP P.length; rwa [List.take_length] at this
  have n2 : 0 ≤ goneN s v Q ∧ goneN s v Q ≤ cnt Q := by have := gone_bd s v HG.out.nQ Q.length; rwa [List.take_length] at this
  obtain ⟨g1, hg1⟩ : ∃ x, goneN s v P = x := ⟨_, rfl⟩
  obtain ⟨g2, hg2⟩ : ∃ x, goneN s v Q = x := ⟨_, rfl⟩
  rw [hg1] at n1 HMK ⊢
  rw [hg2] at n2 HMK
  have HG2 := Lib.hid hg2
  have hsum : zc + (g1 + g2) ≤ 18446744073709551615 := by omega
  clear hg1 hg2
  go_wp2_with fail
  refine (above_any s v B d Q w3 (HQ.out.below HB3.out) (by omega) HG.out.s HG.out.iQ (by omega)).mono ?_
  rintro e w4 ⟨B1, d1, rfl, hB1, hb4, nB1⟩
  rw [HG2.out]
  have HX4 := Lib.hid (And.intro (HX3.out.1.below hb4) (HX3.out.2.below hb4))
  have HB4 := Lib.hid (HB3.out.trans (hb4.mono HB3.out.size))
  have HAB := Lib.hid (And.intro (And.intro (HA1.out.1.below hb4) hB1) (And.intro HA1.out.2 (nB1.ne HX3.out.1.lt)))
  clear x0 x1 x2 x3 x4 x5 x6 x7 hlt hb4 hB1 nB1 HX3 HB3 HA1
  obtain ⟨x0, x1, x2, x3, x4, x5, x6, x7⟩ := HX4.out.1.cells
  obtain ⟨f0, f1, f2, f3, f4, f5, f6, f7⟩ := HX4.out.1.frozen
  have hlt := HX4.out.1.lt
  go_wp2_with fail
  clear x0 x1 x2 x3 x4 x5 x6 x7 f0 f1 f2 f3 f4 f5 f6 f7 hlt
  have hne : w.heap.size + 1 ≠ w.heap.size := by omega
  have HX5 := Lib.hid (HX4.out.2.off hne 3 (.int .u64 (zc + (g1 + g2))))
  have HB5 := Lib.hid (HB4.out.setCell (p := ⟨w.heap.size, 3, none⟩) (Nat.le_refl _) (.int .u64 (zc + (g1 + g2))))
  have HAB5 := Lib.hid (And.intro (HAB.out.1.1.off HAB.out.2.1 3 (.int .u64 (zc + (g1 + g2)))) (HAB.out.1.2.off HAB.out.2.2 3 (.int .u64 (zc + (g1 + g2)))))
  clear HX4 HB4 HAB
  generalize w4.setCell ⟨w.heap.size, 3, none⟩ (.int .u64 (zc + (g1 + g2))) = w5 at *
  have hl1 := List.length_filter_le (fun p => G s v p.1) P
  have hl2 := List.length_filter_le (fun p => G s v p.1) Q
  refine ((make_hv ⟨k, s, v, zc + (g1 + g2), ct, sm, P, Q⟩ ct A B A1 B1 P.length c Q.length d c1 d1 (keepL s v P) (keepL s v Q) w5 ⟨by have := right_yes HG.out.s; simp only at *; omega, by have := right_yes HG.out.s; simp only at *; omega⟩ (by show 0 ≤ zc + (g1 + g2); omega) (by show zc + (g1 + g2) ≤ _; omega) HAB5.out.1 HAB5.out.2 (by unfold keepL; omega) (by unfold keepL; omega))).mono ?_
  intro e w6 hR
  obtain ⟨A2, B2, c2, d2, rfl, hA2, hB2, hb6, nA2, nB2⟩ := hR.as HMK.out.2 HMK.out.1
  have HX6 := Lib.hid (HX5.out.below hb6)
  have HR6 := Lib.hid (RetH.fin (c := c2) (d := d2) (E := 0) (g := w.heap.size + 1) (HB5.out.trans (hb6.mono HB5.out.size)) HB5.out.size HX5.out.lt (by omega) hA2 hB2 nA2 nB2)
  obtain ⟨x0, x1, x2, x3, x4, x5, x6, x7⟩ := HX6.out.cells
  obtain ⟨f0, f1, f2, f3, f4, f5, f6, f7⟩ := HX6.out.frozen
  have hlt := HX6.out.lt
  clear hR hA2 hB2 hb6 nA2 nB2 HMK hl1 hl2
  generalize swG ⟨k, s, z, zc, ct, sm, P, Q⟩ u = r at *
  obtain ⟨rk, rs, rz, rzc, rct, rsm, rP, rQ⟩ := r
  simp only [hvA]
  go_wp2_with fail
  exact bodyPost_ret (v := .tuple #[.agg #[.int .i64 rk, .int .i64 rs, .int .i64 rz, .int .u64 rzc, .int .u64 rct, .int .i64 rsm, .slice A2 rP.length c2, .slice B2 rQ.length d2], .int .i64 0]) (by simp [results, Try.results75, go_sem, x0, x1, x2, x3, x4, x5, x6, x7]) rfl (HR6.out _ _ _ _ _ _ _ _)
end Go.Proofs.Ytbibhjcmdehdbaa
