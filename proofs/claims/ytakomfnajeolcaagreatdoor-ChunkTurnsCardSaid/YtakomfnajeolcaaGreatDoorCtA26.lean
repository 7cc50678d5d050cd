import Derived.Test.YtakomfnajeolcaaGreatDoorCtA25
set_option linter.unusedVariables false
/- Boxes of histograms, step by step; swallow. -/
namespace Go.Proofs.YtakomfnajeolcaaGreatDoor
open Go.RowKit Go.Sort Go.Maps
set_option linter.unusedVariables false

/-- a block that holds a histogram's eight cells -/
def Box (W : World) (g : Nat) (v0 v1 v2 v3 v4 v5 v6 v7 : Value) : Prop := W.heap[g]? = some (.cells #[v0, v1, v2, v3, v4, v5, v6, v7] 39 (0, 0))
theorem Box.lt {W : World} {g : Nat} {v0 v1 v2 v3 v4 v5 v6 v7 : Value} (h : Box W g v0 v1 v2 v3 v4 v5 v6 v7) : g < W.heap.size := (Array.getElem?_eq_some_iff.1 h).1
theorem Box.below {W W' : World} {g : Nat} {v0 v1 v2 v3 v4 v5 v6 v7 : Value} (h : Box W g v0 v1 v2 v3 v4 v5 v6 v7) (hb : Below W.heap.size W W') : Box W' g v0 v1 v2 v3 v4 v5 v6 v7 := (hb.block g h.lt).trans h
theorem Box.off {W : World} {g g' : Nat} {v0 v1 v2 v3 v4 v5 v6 v7 : Value} (h : Box W g v0 v1 v2 v3 v4 v5 v6 v7) (hg : g ≠ g') (i : Nat) (u : Value) : Box (W.setCell ⟨g', i, none⟩ u) g v0 v1 v2 v3 v4 v5 v6 v7 := (heap_setCell_other W ⟨g', i, none⟩ g u hg).trans h
theorem Box.cells {W : World} {g : Nat} {v0 v1 v2 v3 v4 v5 v6 v7 : Value} (h : Box W g v0 v1 v2 v3 v4 v5 v6 v7) :
    W.cell? ⟨g, 0, none⟩ = some v0 ∧ W.cell? ⟨g, 1, none⟩ = some v1 ∧ W.cell? ⟨g, 2, none⟩ = some v2 ∧ W.cell? ⟨g, 3, none⟩ = some v3 ∧ W.cell? ⟨g, 4, none⟩ = some v4 ∧ W.cell? ⟨g, 5, none⟩ = some v5 ∧ W.cell? ⟨g, 6, none⟩ = some v6 ∧ W.cell? ⟨g, 7, none⟩ = some v7 := by
  obtain ⟨a, b, c, d, e, f, g', i, _⟩ := box8 h
  exact ⟨a, b, c, d, e, f, g', i⟩
theorem Box.frozen {W : World} {g : Nat} {v0 v1 v2 v3 v4 v5 v6 v7 : Value} (h : Box W g v0 v1 v2 v3 v4 v5 v6 v7) :
    W.frozen? ⟨g, 0, none⟩ = false ∧ W.frozen? ⟨g, 1, none⟩ = false ∧ W.frozen? ⟨g, 2, none⟩ = false ∧ W.frozen? ⟨g, 3, none⟩ = false ∧ W.frozen? ⟨g, 4, none⟩ = false ∧ W.frozen? ⟨g, 5, none⟩ = false ∧ W.frozen? ⟨g, 6, none⟩ = false ∧ W.frozen? ⟨g, 7, none⟩ = false := by
  obtain ⟨_, _, _, _, _, _, _, _, f⟩ := box8 h
  exact ⟨f 0, f 1, f 2, f 3, f 4, f 5, f 6, f 7⟩
theorem Box.set2 {W : World} {g : Nat} {v0 v1 v2 v3 v4 v5 v6 v7 : Value} (h : Box W g v0 v1 v2 v3 v4 v5 v6 v7) (u : Value) : Box (W.setCell ⟨g, 2, none⟩ u) g v0 v1 u v3 v4 v5 v6 v7 := heap_set_at h u
theorem Box.set3 {W : World} {g : Nat} {v0 v1 v2 v3 v4 v5 v6 v7 : Value} (h : Box W g v0 v1 v2 v3 v4 v5 v6 v7) (u : Value) : Box (W.setCell ⟨g, 3, none⟩ u) g v0 v1 v2 u v4 v5 v6 v7 := heap_set_at h u
theorem Box.two (w : World) (v0 v1 v2 v3 v4 v5 v6 v7 u0 u1 u2 u3 u4 u5 u6 u7 : Value) : Box ((w.alloc (.cells #[v0, v1, v2, v3, v4, v5, v6, v7] 39)).alloc (.cells #[u0, u1, u2, u3, u4, u5, u6, u7] 39)) w.heap.size v0 v1 v2 v3 v4 v5 v6 v7 ∧ Box ((w.alloc (.cells #[v0, v1, v2, v3, v4, v5, v6, v7] 39)).alloc (.cells #[u0, u1, u2, u3, u4, u5, u6, u7] 39)) (w.heap.size + 1) u0 u1 u2 u3 u4 u5 u6 u7 := by
  constructor
  · unfold Box
    rw [Below.heap_alloc _ _ _ (by simp)]; exact heap_alloc_new w _
  · have := heap_alloc_new (w.alloc (.cells #[v0, v1, v2, v3, v4, v5, v6, v7] 39)) (.cells #[u0, u1, u2, u3, u4, u5, u6, u7] 39)
    simpa [Box] using this
theorem Bk.off {w : World} {A : Option Addr} {l : List (Int × Int)} (h : Bk w A l) {g : Nat} (hg : ∀ a, A = some a → a.block ≠ g) (i : Nat) (u : Value) : Bk (w.setCell ⟨g, i, none⟩ u) A l := by
  obtain ⟨h1, h2, h3⟩ := h
  refine ⟨h1, h2, ?_⟩
  rcases h3 with h3 | ⟨b, off, e, hc⟩
  · exact .inl h3
  · have hb := hg _ e
    have hk : ∀ o, (w.setCell ⟨g, i, none⟩ u).cell? ⟨b, o, none⟩ = w.cell? ⟨b, o, none⟩ := fun o => World.cell?_of_block (a := ⟨b, o, none⟩) (heap_setCell_other w ⟨g, i, none⟩ b u hb)
    exact .inr ⟨b, off, e, fun j p hj => ⟨(hk _).trans (hc j p hj).1, (hk _).trans (hc j p hj).2⟩⟩
/-- eight cells are written -/
def set8 (W : World) (g : Nat) (u0 u1 u2 u3 u4 u5 u6 u7 : Value) : World := (((((((W.setCell ⟨g, 0, none⟩ u0).setCell ⟨g, 1, none⟩ u1).setCell ⟨g, 2, none⟩ u2).setCell ⟨g, 3, none⟩ u3).setCell ⟨g, 4, none⟩ u4).setCell ⟨g, 5, none⟩ u5).setCell ⟨g, 6, none⟩ u6).setCell ⟨g, 7, none⟩ u7
theorem Bk.set8 {w : World} {A : Option Addr} {l : List (Int × Int)} (h : Bk w A l) {g : Nat} (hg : ∀ a, A = some a → a.block ≠ g) (u0 u1 u2 u3 u4 u5 u6 u7 : Value) : Bk (set8 w g u0 u1 u2 u3 u4 u5 u6 u7) A l := by
  unfold Go.Proofs.YtakomfnajeolcaaGreatDoor.set8
  exact (((((((h.off hg 0 _).off hg 1 _).off hg 2 _).off hg 3 _).off hg 4 _).off hg 5 _).off hg 6 _).off hg 7 _
theorem below_set8 {B : Nat} {a w : World} (h : Below B a w) {g : Nat} (hg : B ≤ g) (u0 u1 u2 u3 u4 u5 u6 u7 : Value) : Below B a (set8 w g u0 u1 u2 u3 u4 u5 u6 u7) := by
  unfold set8
  exact (((((((h.setCell (p := ⟨g, 0, none⟩) hg _).setCell (p := ⟨g, 1, none⟩) hg _).setCell (p := ⟨g, 2, none⟩) hg _).setCell (p := ⟨g, 3, none⟩) hg _).setCell (p := ⟨g, 4, none⟩) hg _).setCell (p := ⟨g, 5, none⟩) hg _).setCell (p := ⟨g, 6, none⟩) hg _).setCell (p := ⟨g, 7, none⟩) hg _
theorem NewA.mono {w w' : World} {A : Option Addr} (h : NewA w' A) (hs : w.heap.size ≤ w'.heap.size) : NewA w A := fun a ha => Nat.le_trans hs (h a ha)
theorem NewA.ne {w : World} {A : Option Addr} (h : NewA w A) {g : Nat} (hg : g < w.heap.size) : ∀ a, A = some a → a.block ≠ g := fun a ha => by have := h a ha; omega
/-- the result in its box behind the last call -/
theorem RetH.fin {w w4 w5 : World} {r : HV} {E : Int} {A B : Option Addr} {c d : Nat} {g : Nat} (hb : Below w.heap.size w w5) (hs : w.heap.size ≤ w4.heap.size) (hg : g < w4.heap.size) (hg2 : w.heap.size ≤ g) (hA : Bk w5 A r.P) (hB : Bk w5 B r.Q) (nA : NewA w4 A) (nB : NewA w4 B) (u0 u1 u2 u3 u4 u5 u6 u7 : Value) :
    RetH w r E (.returned (.tuple #[hvA r A B c d, .int .i64 E])) (set8 w5 g u0 u1 u2 u3 u4 u5 u6 u7) :=
  ⟨A, B, c, d, rfl, hA.set8 (nA.ne hg) _ _ _ _ _ _ _ _, hB.set8 (nB.ne hg) _ _ _ _ _ _ _ _, below_set8 hb hg2 _ _ _ _ _ _ _ _, nA.mono hs, nB.mono hs⟩
set_option maxHeartbeats 2000000 in
set_option maxRecDepth 100000 in
theorem swallow_any (k s z zc ct sm u : Int) (A B : Option Addr) (c d : Nat) (P Q : List (Int × Int)) (w : World) (hP : Bk w A P) (hQ : Bk w B Q) (hlp : P.length ≤ 512) (hlq : Q.length ≤ 512) (g : Good ⟨k, s, z, zc, ct, sm, P, Q⟩) (hu : zr u) :
    Calls Tryz.prog 167 #[.agg #[.int .i64 k, .int .i64 s, .int .i64 z, .int .u64 zc, .int .u64 ct, .int .i64 sm, .slice A P.length c, .slice B Q.length d], .int .i64 u] w (RetH w (swG ⟨k, s, z, zc, ct, sm, P, Q⟩ u) 0) := by
  obtain ⟨bx, bz⟩ := Box.two w (.int .i64 k) (.int .i64 s) (.int .i64 z) (.int .u64 zc) (.int .u64 ct) (.int .i64 sm) (.slice A P.length c) (.slice B Q.length d) (.int .i64 0) (.int .i64 0) (.int .i64 0) (.int .u64 0) (.int .u64 0) (.int .i64 0) (.slice none 0 0) (.slice none 0 0)
  have hb0 : Below w.heap.size w ((w.alloc (.cells #[.int .i64 k, .int .i64 s, .int .i64 z, .int .u64 zc, .int .u64 ct, .int .i64 sm, .slice A P.length c, .slice B Q.length d] 39)).alloc (.cells #[.int .i64 0, .int .i64 0, .int .i64 0, .int .u64 0, .int .u64 0, .int .i64 0, .slice none 0 0, .slice none 0 0] 39)) := ((Below.refl _ _).alloc (Nat.le_refl _) _).alloc (by simp) _
  obtain ⟨v, hv⟩ : ∃ v, outF s (P ++ Q) u = v := ⟨_, rfl⟩
  have HV := Lib.hid hv
  have HP := Lib.hid hP
  have HQ := Lib.hid hQ
  have HB0 := Lib.hid hb0
  have HG := Lib.hid g
  have HMK := Lib.hid (mk_sw g hlp hlq hu v hv)
  have HX := Lib.hid (And.intro bx bz)
  clear hP hQ hb0 g hu hv bx bz
  go_enter Tryz.func167, Tryz.ntmps167
  go_wp2_with fail
  generalize ((w.alloc (.cells #[.int .i64 k, .int .i64 s, .int .i64 z, .int .u64 zc, .int .u64 ct, .int .i64 sm, .slice A P.length c, .slice B Q.length d] 39)).alloc (.cells #[.int .i64 0, .int .i64 0, .int .i64 0, .int .u64 0, .int .u64 0, .int .i64 0, .slice none 0 0, .slice none 0 0] 39)) = w0 at *
  refine (outside_any k s z zc ct sm u A B c d P Q w0 (HP.out.below HB0.out) (HQ.out.below HB0.out) (by omega) (by omega) HG.out.s HG.out.inPQ).mono ?_
  rintro e w1 ⟨rfl, hb1⟩
  rw [HV.out]
  have HX1 := Lib.hid (And.intro (HX.out.1.below hb1) (HX.out.2.below hb1))
  have HB1 := Lib.hid (HB0.out.trans (hb1.mono HB0.out.size))
  obtain ⟨x0, x1, x2, x3, x4, x5, x6, x7⟩ := HX1.out.1.cells
  obtain ⟨f0, f1, f2, f3, f4, f5, f6, f7⟩ := HX1.out.1.frozen
  have hlt := HX1.out.1.lt
  clear hb1
  go_wp2_with fail
  clear x0 x1 x2 x3 x4 x5 x6 x7 f0 f1 f2 f3 f4 f5 f6 f7 hlt
  have HX2 := Lib.hid (And.intro (HX1.out.1.set2 (.int .i64 v)) (HX1.out.2.off (show w.heap.size + 1 ≠ w.heap.size by omega) 2 (.int .i64 v)))
  have HB2 := Lib.hid (HB1.out.setCell (p := ⟨w.heap.size, 2, none⟩) (Nat.le_refl _) (.int .i64 v))
  clear HX1 HB1 HX
  generalize w1.setCell ⟨w.heap.size, 2, none⟩ (.int .i64 v) = w2 at *
  have hcP := HG.out.nP.cnt
  have hcQ := HG.out.nQ.cnt
  have hcc := HG.out.ct
  have hbg := HG.out.big
  have hz0 := HG.out.zc
  simp only at hcP hcQ hcc hbg hz0
  refine (above_any s v A c P w2 (HP.out.below HB2.out) (by omega) HG.out.s HG.out.iP (by omega)).mono ?_
  rintro e w3 ⟨A1, c1, rfl, hA1, hb3, nA1⟩
  have HX3 := Lib.hid (And.intro (HX2.out.1.below hb3) (HX2.out.2.below hb3))
  have HB3 := Lib.hid (HB2.out.trans (hb3.mono HB2.out.size))
  have HA1 := Lib.hid (And.intro hA1 (nA1.ne HX2.out.1.lt))
  obtain ⟨x0, x1, x2, x3, x4, x5, x6, x7⟩ := HX3.out.1.cells
  have hlt := HX3.out.1.lt
  clear hb3 hA1 nA1 HX2 HB2
  have n1 : 0 ≤ goneN s v P ∧ goneN s v P ≤ cnt P := by have := gone_bd s v HG.out.nP P.length; rwa [List.take_length] at this
  have n2 : 0 ≤ goneN s v Q ∧ goneN s v Q ≤ cnt Q := by have := gone_bd s v HG.out.nQ Q.length; rwa [List.take_length] at this
  obtain ⟨g1, hg1⟩ : ∃ x, goneN s v P = x := ⟨_, rfl⟩
  obtain ⟨g2, hg2⟩ : ∃ x, goneN s v Q = x := ⟨_, rfl⟩
  rw [hg1] at n1 HMK ⊢
  rw [hg2] at n2 HMK
  have HG2 := Lib.hid hg2
  have hsum : zc + (g1 + g2) ≤ 18446744073709551615 := by omega
  clear hg1 hg2
  go_wp2_with fail
  refine (above_any s v B d Q w3 (HQ.out.below HB3.out) (by omega) HG.out.s HG.out.iQ (by omega)).mono ?_
  rintro e w4 ⟨B1, d1, rfl, hB1, hb4, nB1⟩
  rw [HG2.out]
  have HX4 := Lib.hid (And.intro (HX3.out.1.below hb4) (HX3.out.2.below hb4))
  have HB4 := Lib.hid (HB3.out.trans (hb4.mono HB3.out.size))
  have HAB := Lib.hid (And.intro (And.intro (HA1.out.1.below hb4) hB1) (And.intro HA1.out.2 (nB1.ne HX3.out.1.lt)))
  clear x0 x1 x2 x3 x4 x5 x6 x7 hlt hb4 hB1 nB1 HX3 HB3 HA1
  obtain ⟨x0, x1, x2, x3, x4, x5, x6, x7⟩ := HX4.out.1.cells
  obtain ⟨f0, f1, f2, f3, f4, f5, f6, f7⟩ := HX4.out.1.frozen
  have hlt := HX4.out.1.lt
  go_wp2_with fail
  clear x0 x1 x2 x3 x4 x5 x6 x7 f0 f1 f2 f3 f4 f5 f6 f7 hlt
  have hne : w.heap.size + 1 ≠ w.heap.size := by omega
  have HX5 := Lib.hid (HX4.out.2.off hne 3 (.int .u64 (zc + (g1 + g2))))
  have HB5 := Lib.hid (HB4.out.setCell (p := ⟨w.heap.size, 3, none⟩) (Nat.le_refl _) (.int .u64 (zc + (g1 + g2))))
  have HAB5 := Lib.hid (And.intro (HAB.out.1.1.off HAB.out.2.1 3 (.int .u64 (zc + (g1 + g2)))) (HAB.out.1.2.off HAB.out.2.2 3 (.int .u64 (zc + (g1 + g2)))))
  clear HX4 HB4 HAB
  generalize w4.setCell ⟨w.heap.size, 3, none⟩ (.int .u64 (zc + (g1 + g2))) = w5 at *
  have hl1 := List.length_filter_le (fun p => G s v p.1) P
  have hl2 := List.length_filter_le (fun p => G s v p.1) Q
  refine ((make_hv ⟨k, s, v, zc + (g1 + g2), ct, sm, P, Q⟩ ct A B A1 B1 P.length c Q.length d c1 d1 (keepL s v P) (keepL s v Q) w5 ⟨by have := right_yes HG.out.s; simp only at *; omega, by have := right_yes HG.out.s; simp only at *; omega⟩ (by show 0 ≤ zc + (g1 + g2); omega) (by show zc + (g1 + g2) ≤ _; omega) HAB5.out.1 HAB5.out.2 (by unfold keepL; omega) (by unfold keepL; omega))).mono ?_
  intro e w6 hR
  obtain ⟨A2, B2, c2, d2, rfl, hA2, hB2, hb6, nA2, nB2⟩ := hR.as HMK.out.2 HMK.out.1
  have HX6 := Lib.hid (HX5.out.below hb6)
  have HR6 := Lib.hid (RetH.fin (c := c2) (d := d2) (E := 0) (g := w.heap.size + 1) (HB5.out.trans (hb6.mono HB5.out.size)) HB5.out.size HX5.out.lt (by omega) hA2 hB2 nA2 nB2)
  obtain ⟨x0, x1, x2, x3, x4, x5, x6, x7⟩ := HX6.out.cells
  obtain ⟨f0, f1, f2, f3, f4, f5, f6, f7⟩ := HX6.out.frozen
  have hlt := HX6.out.lt
  clear hR hA2 hB2 hb6 nA2 nB2 HMK hl1 hl2
  generalize swG ⟨k, s, z, zc, ct, sm, P, Q⟩ u = r at *
  obtain ⟨rk, rs, rz, rzc, rct, rsm, rP, rQ⟩ := r
  simp only [hvA]
  go_wp2_with fail
  exact bodyPost_ret (v := .tuple #[.agg #[.int .i64 rk, .int .i64 rs, .int .i64 rz, .int .u64 rzc, .int .u64 rct, .int .i64 rsm, .slice A2 rP.length c2, .slice B2 rQ.length d2], .int .i64 0]) (by simp [results, Tryz.results167, go_sem, x0, x1, x2, x3, x4, x5, x6, x7]) rfl (HR6.out _ _ _ _ _ _ _ _)
end Go.Proofs.YtakomfnajeolcaaGreatDoor


/- Down. -/
namespace Go.Proofs.YtakomfnajeolcaaGreatDoor
open Go.RowKit Go.Sort Go.Maps
set_option linter.unusedVariables false

theorem RetH.zero {w w' : World} {E : Int} (hb : Below w.heap.size w w') : RetH w zeroV E (.returned (.tuple #[.agg #[.int .i64 0, .int .i64 0, .int .i64 0, .int .u64 0, .int .u64 0, .int .i64 0, .slice none 0 0, .slice none 0 0], .int .i64 E])) w' :=
  ⟨none, none, 0, 0, rfl, Bk.nil _ _, Bk.nil _ _, hb, newA_none _, newA_none _⟩
def RetC (w : World) (r : HV) (e : Ending) (w' : World) : Prop := ∃ (A B : Option Addr) (c d : Nat), e = .returned (hvA r A B c d) ∧ Bk w' A r.P ∧ Bk w' B r.Q ∧ Below w.heap.size w w' ∧ NewA w A ∧ NewA w B
theorem own_new {w0 w : World} {A : Option Addr} {n c : Nat} {X : List Value} (h : w.ownsRow w0.heap.size 86 2 (.slice A n c) n X) : NewA w0 A := fun a ha => (h.lt a.block (by rw [ha]; rfl)).1
theorem clone_hv (h : HV) (A B : Option Addr) (c d : Nat) (w : World) (hP : Bk w A h.P) (hQ : Bk w B h.Q) (hlp : h.P.length ≤ 1100) (hlq : h.Q.length ≤ 1100) :
    Calls Tryz.prog 47 #[hvA h A B c d] w (RetC w h) := by
  refine (hclone_any h.k h.s h.z h.zc h.ct h.sm A B c d h.P h.Q w hP hQ hlp hlq).mono ?_
  rintro e w' ⟨A', B', c', d', rfl, o1, o2, _, hb⟩
  exact ⟨A', B', c', d', rfl, own_bk o1 hP.2.1 (by omega), own_bk o2 hQ.2.1 (by omega), hb, own_new o1, own_new o2⟩
theorem RetC.fin {w w4 w5 : World} {r : HV} {E : Int} {A B : Option Addr} {c d : Nat} (hs : w.heap.size ≤ w4.heap.size) (hb : Below w.heap.size w w5) (hA : Bk w5 A r.P) (hB : Bk w5 B r.Q) (nA : NewA w4 A) (nB : NewA w4 B) : RetH w r E (.returned (.tuple #[hvA r A B c d, .int .i64 E])) w5 :=
  ⟨A, B, c, d, rfl, hA, hB, hb, nA.mono hs, nB.mono hs⟩
theorem checkN (k s z zc ct : Int) (sm : Value) (A B : Option Addr) (c d : Nat) (P Q : List (Int × Int)) (w : World) (z0 : 0 ≤ zc) (z1 : zc ≤ 18446744073709551615) (hP : Bk w A P) (hQ : Bk w B Q) (e0 : Int) (h : checkF k s z zc ct P Q = e0) :
    Calls Tryz.prog 20 #[.agg #[.int .i64 k, .int .i64 s, .int .i64 z, .int .u64 zc, .int .u64 ct, sm, .slice A P.length c, .slice B Q.length d]] w fun e w' => e = .returned (.int .i64 e0) ∧ Below w.heap.size w w' := by
  refine (check_any k s z zc ct sm A B c d P Q w z0 z1 hP hQ).mono ?_
  rintro e w' ⟨rfl, hb⟩
  exact ⟨by rw [h], hb⟩
theorem Good.z1 {h : HV} (o : Good h) : h.zc ≤ 18446744073709551615 := by
  have := o.ct; have := o.big; have := o.nP.cnt; have := o.nQ.cnt; omega
set_option maxHeartbeats 2000000 in
set_option maxRecDepth 100000 in
theorem down_same_any (k s z zc ct sm : Int) (A B : Option Addr) (c d : Nat) (P Q : List (Int × Int)) (w : World) (hP : Bk w A P) (hQ : Bk w B Q) (o : Ok ⟨k, s, z, zc, ct, sm, P, Q⟩) :
    Calls Tryz.prog 142 #[.agg #[.int .i64 k, .int .i64 s, .int .i64 z, .int .u64 zc, .int .u64 ct, .int .i64 sm, .slice A P.length c, .slice B Q.length d], .int .i64 s] w (RetH w ⟨k, s, z, zc, ct, sm, P, Q⟩ 0) := by
  obtain ⟨bx, bz⟩ := Box.two w (.int .i64 k) (.int .i64 s) (.int .i64 z) (.int .u64 zc) (.int .u64 ct) (.int .i64 sm) (.slice A P.length c) (.slice B Q.length d) (.int .i64 0) (.int .i64 0) (.int .i64 0) (.int .u64 0) (.int .u64 0) (.int .i64 0) (.slice none 0 0) (.slice none 0 0)
  have hb0 : Below w.heap.size w ((w.alloc (.cells #[.int .i64 k, .int .i64 s, .int .i64 z, .int .u64 zc, .int .u64 ct, .int .i64 sm, .slice A P.length c, .slice B Q.length d] 39)).alloc (.cells #[.int .i64 0, .int .i64 0, .int .i64 0, .int .u64 0, .int .u64 0, .int .i64 0, .slice none 0 0, .slice none 0 0] 39)) := ((Below.refl _ _).alloc (Nat.le_refl _) _).alloc (by simp) _
  have HP := Lib.hid hP
  have HQ := Lib.hid hQ
  have HB0 := Lib.hid hb0
  have HO := Lib.hid o
  have HR := o.s
  have hl1 := o.lP
  have hl2 := o.lQ
  simp only at HR hl1 hl2
  have HX := Lib.hid (And.intro bx bz)
  have d1 : decide (s < s) = false := by simp
  clear hP hQ hb0 o bx bz
  go_enter Tryz.func142, Tryz.ntmps142
  go_wp2_with (go_at_call 83; refine (right_any _ _).mono ?_; rintro e w' ⟨rfl, rfl⟩)
  generalize ((w.alloc (.cells #[.int .i64 k, .int .i64 s, .int .i64 z, .int .u64 zc, .int .u64 ct, .int .i64 sm, .slice A P.length c, .slice B Q.length d] 39)).alloc (.cells #[.int .i64 0, .int .i64 0, .int .i64 0, .int .u64 0, .int .u64 0, .int .i64 0, .slice none 0 0, .slice none 0 0] 39)) = w0 at *
  refine (checkN k s z zc ct (.int .i64 sm) A B c d P Q w0 HO.out.zc HO.out.toGood.z1 (HP.out.below HB0.out) (HQ.out.below HB0.out) 0 HO.out.chk).mono ?_
  rintro e w1 ⟨rfl, hb1⟩
  have HX1 := Lib.hid (And.intro (HX.out.1.below hb1) (HX.out.2.below hb1))
  have HB1 := Lib.hid (HB0.out.trans (hb1.mono HB0.out.size))
  obtain ⟨x0, x1, x2, x3, x4, x5, x6, x7⟩ := HX1.out.1.cells
  have hlt := HX1.out.1.lt
  clear hb1
  go_wp2_with fail
  refine (clone_hv ⟨k, s, z, zc, ct, sm, P, Q⟩ A B c d w1 (HP.out.below HB1.out) (HQ.out.below HB1.out) (by show P.length ≤ 1100; omega) (by show Q.length ≤ 1100; omega)).mono ?_
  rintro e w2 ⟨A2, B2, c2, d2, rfl, hA2, hB2, hb2, nA2, nB2⟩
  have HR2 := Lib.hid (RetH.fin (c := c2) (d := d2) (E := 0) (g := w.heap.size + 1) (HB1.out.trans (hb2.mono HB1.out.size)) HB1.out.size HX1.out.2.lt (by omega) hA2 hB2 nA2 nB2)
  have HX2 := Lib.hid (HX1.out.2.below hb2)
  clear x0 x1 x2 x3 x4 x5 x6 x7 hlt hA2 hB2 hb2 nA2 nB2
  obtain ⟨x0, x1, x2, x3, x4, x5, x6, x7⟩ := HX2.out.cells
  obtain ⟨f0, f1, f2, f3, f4, f5, f6, f7⟩ := HX2.out.frozen
  have hlt := HX2.out.lt
  go_wp2_with fail
  exact bodyPost_ret (v := .tuple #[.agg #[.int .i64 k, .int .i64 s, .int .i64 z, .int .u64 zc, .int .u64 ct, .int .i64 sm, .slice A2 P.length c2, .slice B2 Q.length d2], .int .i64 0]) (by simp [results, Tryz.results142, go_sem, x0, x1, x2, x3, x4, x5, x6, x7]) rfl (HR2.out _ _ _ _ _ _ _ _)
theorem coarserN (f t : Int) (A : Option Addr) (c : Nat) (l : List (Int × Int)) (w1 W : World) (hW : Below w1.heap.size w1 W) (hP : Bk w1 A l) (hl : l.length ≤ 1000) (hft : okTo f t = true) (hi : ∀ p ∈ l, inB f p.1 = true) :
    Calls Tryz.prog 166 #[.slice A l.length c, .int .i64 f, .int .i64 t] W fun e w' => ∃ A' c', e = .returned (.slice A' (mv f t l).length c') ∧ (Bk w' A' (mv f t l) ∧ NewA w1 A' ∧ Below W.heap.size W w') ∧ Below w1.heap.size w1 w' := by
  refine (coarser_any f t A c l W (hP.below hW) hl hft hi).mono ?_
  rintro e w' ⟨A', c', rfl, h1, h2, h3⟩
  exact ⟨A', c', rfl, ⟨h1, h3.mono hW.size, h2⟩, hW.trans (h2.mono hW.size)⟩
theorem cells167 {W : World} {g : Nat} {v0 v1 v2 v3 v4 v5 v6 v7 : Value} (h : Box W g v0 v1 v2 v3 v4 v5 v6 v7) : W.cell? ⟨g, 1, none⟩ = some v1 ∧ W.cell? ⟨g, 6, none⟩ = some v6 ∧ W.cell? ⟨g, 7, none⟩ = some v7 ∧ W.frozen? ⟨g, 6, none⟩ = false ∧ W.frozen? ⟨g, 7, none⟩ = false := by
  obtain ⟨_, a, _, _, _, _, b, c⟩ := h.cells
  obtain ⟨_, _, _, _, _, _, d, e⟩ := h.frozen
  exact ⟨a, b, c, d, e⟩
theorem Box.set6 {W : World} {g : Nat} {v0 v1 v2 v3 v4 v5 v6 v7 : Value} (h : Box W g v0 v1 v2 v3 v4 v5 v6 v7) (u : Value) : Box (W.setCell ⟨g, 6, none⟩ u) g v0 v1 v2 v3 v4 v5 u v7 := heap_set_at h u
theorem Box.set7 {W : World} {g : Nat} {v0 v1 v2 v3 v4 v5 v6 v7 : Value} (h : Box W g v0 v1 v2 v3 v4 v5 v6 v7) (u : Value) : Box (W.setCell ⟨g, 7, none⟩ u) g v0 v1 v2 v3 v4 v5 v6 u := heap_set_at h u
theorem Box.set1 {W : World} {g : Nat} {v0 v1 v2 v3 v4 v5 v6 v7 : Value} (h : Box W g v0 v1 v2 v3 v4 v5 v6 v7) (u : Value) : Box (W.setCell ⟨g, 1, none⟩ u) g v0 u v2 v3 v4 v5 v6 v7 := heap_set_at h u
def ZeroBox (W : World) (g : Nat) : Prop := Box W g (.int .i64 0) (.int .i64 0) (.int .i64 0) (.int .u64 0) (.int .u64 0) (.int .i64 0) (.slice none 0 0) (.slice none 0 0)
/-- the box behind both sides' moving -/
def DnRel (w : World) (k s z zc ct sm : Int) (X Y : List (Int × Int)) (wx : World) : Prop :=
  ∃ (A B : Option Addr) (c d : Nat), Box wx w.heap.size (.int .i64 k) (.int .i64 s) (.int .i64 z) (.int .u64 zc) (.int .u64 ct) (.int .i64 sm) (.slice A X.length c) (.slice B Y.length d) ∧ ZeroBox wx (w.heap.size + 1) ∧ Bk wx A X ∧ Bk wx B Y ∧ (∀ a, A = some a → a.block ≠ w.heap.size) ∧ (∀ a, B = some a → a.block ≠ w.heap.size) ∧ Below w.heap.size w wx
theorem dn_end {w w1 : World} {k s z zc ct sm : Int} {A B : Option Addr} {n m c d : Nat} {X Y : List (Int × Int)} (b1 : Box w1 w.heap.size (.int .i64 k) (.int .i64 s) (.int .i64 z) (.int .u64 zc) (.int .u64 ct) (.int .i64 sm) (.slice A n c) (.slice B m d)) (b2 : ZeroBox w1 (w.heap.size + 1)) (hb : Below w.heap.size w w1)
    (w2 w3 : World) (A1 B1 : Option Addr) (c1 d1 : Nat) (hA : Bk w2 A1 X) (nA : NewA w1 A1) (h23 : Below w2.heap.size w2 w3) (hB : Bk w3 B1 Y) (nB : NewA w1 B1) (h13 : Below w1.heap.size w1 w3) :
    DnRel w k s z zc ct sm X Y ((w3.setCell ⟨w.heap.size, 6, none⟩ (.slice A1 X.length c1)).setCell ⟨w.heap.size, 7, none⟩ (.slice B1 Y.length d1)) := by
  have nA1 := nA.ne b1.lt
  have nB1 := nB.ne b1.lt
  have hne : w.heap.size + 1 ≠ w.heap.size := by omega
  exact ⟨A1, B1, c1, d1, ((b1.below h13).set6 _).set7 _, Box.off (Box.off (Box.below b2 h13) hne 6 _) hne 7 _, ((hA.below h23).off nA1 6 _).off nA1 7 _, (hB.off nB1 6 _).off nB1 7 _, nA1, nB1, ((hb.trans (h13.mono hb.size)).setCell (p := ⟨w.heap.size, 6, none⟩) (Nat.le_refl _) _).setCell (p := ⟨w.heap.size, 7, none⟩) (Nat.le_refl _) _⟩
end Go.Proofs.YtakomfnajeolcaaGreatDoor


/- Down to a coarser schema. -/
namespace Go.Proofs.YtakomfnajeolcaaGreatDoor
open Go.RowKit Go.Sort Go.Maps
set_option linter.unusedVariables false

set_option maxHeartbeats 20000000 in
set_option maxRecDepth 100000 in
theorem down_less_any (k s z zc ct sm t : Int) (A B : Option Addr) (c d : Nat) (P Q : List (Int × Int)) (w : World) (hP : Bk w A P) (hQ : Bk w B Q) (o : Ok ⟨k, s, z, zc, ct, sm, P, Q⟩) (ht : rightB t = true) (hts : t < s) (r : HV) (hr : swG ⟨k, t, z, zc, ct, sm, mv s t P, mv s t Q⟩ z = r) :
    Calls Tryz.prog 142 #[.agg #[.int .i64 k, .int .i64 s, .int .i64 z, .int .u64 zc, .int .u64 ct, .int .i64 sm, .slice A P.length c, .slice B Q.length d], .int .i64 t] w (RetH w r 0) := by
  have HRR := Lib.hid hr
  clear hr
  obtain ⟨bx, bz⟩ := Box.two w (.int .i64 k) (.int .i64 s) (.int .i64 z) (.int .u64 zc) (.int .u64 ct) (.int .i64 sm) (.slice A P.length c) (.slice B Q.length d) (.int .i64 0) (.int .i64 0) (.int .i64 0) (.int .u64 0) (.int .u64 0) (.int .i64 0) (.slice none 0 0) (.slice none 0 0)
  have hb0 : Below w.heap.size w ((w.alloc (.cells #[.int .i64 k, .int .i64 s, .int .i64 z, .int .u64 zc, .int .u64 ct, .int .i64 sm, .slice A P.length c, .slice B Q.length d] 39)).alloc (.cells #[.int .i64 0, .int .i64 0, .int .i64 0, .int .u64 0, .int .u64 0, .int .i64 0, .slice none 0 0, .slice none 0 0] 39)) := ((Below.refl _ _).alloc (Nat.le_refl _) _).alloc (by simp) _
  have HP := Lib.hid hP
  have HQ := Lib.hid hQ
  have HB0 := Lib.hid hb0
  have HO := Lib.hid o
  have HR := o.s
  have hl1 := o.lP
  have hl2 := o.lQ
  simp only at HR hl1 hl2
  have HX := Lib.hid (And.intro bx (show ZeroBox _ _ from bz))
  have HT := Lib.hid (show okTo s t = true by unfold okTo; rw [HR, ht]; simp; omega)
  have HG := Lib.hid (raw_good o.toGood ht (show t ≤ s by omega))
  have d1 : decide (s < t) = false := by simp; omega
  have d2 : (t == s) = false := by simp; omega
  clear hP hQ hb0 o bx bz
  go_enter Tryz.func142, Tryz.ntmps142
  go_wp2_with (go_at_call 83; refine (right_any _ _).mono ?_; rintro e w' ⟨rfl, rfl⟩)
  generalize ((w.alloc (.cells #[.int .i64 k, .int .i64 s, .int .i64 z, .int .u64 zc, .int .u64 ct, .int .i64 sm, .slice A P.length c, .slice B Q.length d] 39)).alloc (.cells #[.int .i64 0, .int .i64 0, .int .i64 0, .int .u64 0, .int .u64 0, .int .i64 0, .slice none 0 0, .slice none 0 0] 39)) = w0 at *
  refine (checkN k s z zc ct (.int .i64 sm) A B c d P Q w0 HO.out.zc HO.out.toGood.z1 (HP.out.below HB0.out) (HQ.out.below HB0.out) 0 HO.out.chk).mono ?_
  rintro e w1 ⟨rfl, hb1⟩
  have HX1 := Lib.hid (And.intro (HX.out.1.below hb1) (HX.out.2.below hb1))
  have HB1 := Lib.hid (HB0.out.trans (hb1.mono HB0.out.size))
  obtain ⟨x1, x6, x7, _, _⟩ := cells167 HX1.out.1
  have hlt := HX1.out.1.lt
  clear hb1
  have HC1 := Lib.hid (fun (W : World) (hW : Below w1.heap.size w1 W) => coarserN s t A c P w1 W hW (HP.out.below HB1.out) (by omega) HT.out HO.out.iP)
  have HC2 := Lib.hid (fun (W : World) (hW : Below w1.heap.size w1 W) => coarserN s t B d Q w1 W hW (HQ.out.below HB1.out) (by omega) HT.out HO.out.iQ)
  have HBX := Lib.hid (fun (W : World) (hW : Below w1.heap.size w1 W) => cells167 (HX1.out.1.below hW))
  have HEN := Lib.hid (@dn_end w w1 k s z zc ct sm A B P.length Q.length c d (mv s t P) (mv s t Q) HX1.out.1 HX1.out.2 HB1.out)
  have g0 : Below w1.heap.size w1 w1.drew := (Below.refl _ _).drew
  go_upto_region 8 with fail
  go_cut [29] from 30 (fun s29 wx => DnRel w k s z zc ct sm (mv s t P) (mv s t Q) wx)
  case first =>
    go_region_with (go_at_call 166; first
      | ((with_reducible refine (HC1.out _ (by first | assumption | exact below_drewN (Below.refl _ _) _ | exact (Below.refl _ _).drew)).mono ?_); rintro e w2 ⟨A1, c1, rfl, hA1, g1⟩; have HA1 := Lib.hid hA1; obtain ⟨j1, j6, j7, _, _⟩ := HBX.out w2 g1; clear hA1)
      | ((with_reducible refine (HC2.out _ (by first | assumption | exact below_drewN (Below.refl _ _) _ | exact (Below.refl _ _).drew)).mono ?_); rintro e w3 ⟨B1, d1, rfl, hB1, g2⟩; have HB1B := Lib.hid hB1; obtain ⟨l1, l6, l7, f6, f7⟩ := HBX.out w3 g2; clear hB1)
      | fail)
    all_goals (go_wp2_with fail)
    all_goals go_meet
    all_goals exact HEN.out _ _ _ _ _ _ HA1.out.1 HA1.out.2.1 HB1B.out.2.2 HB1B.out.1 HB1B.out.2.1 g2
  case rest =>
    obtain ⟨wy, hwy, hcut⟩ : ∃ W, W = _ ∧ DnRel w k s z zc ct sm (mv s t P) (mv s t Q) W := ⟨_, rfl, hcut⟩
    subst hwy
    obtain ⟨A1, B1, c1, d1, hx, hz, hA, hB, nA, nB, hb⟩ := hcut
    have HXr := Lib.hid (And.intro hx hz)
    have HBr := Lib.hid hb
    have HAr := Lib.hid (And.intro (And.intro hA hB) (And.intro nA nB))
    obtain ⟨y0, y1, y2, y3, y4, y5, y6, y7⟩ := hx.cells
    obtain ⟨f0, f1, f2, f3, f4, f5, f6, f7⟩ := hx.frozen
    have hly := hx.lt
    clear hx hz hA hB nA nB hb HC1 HC2 HBX HEN g0 x1 x6 x7
    go_wp2_with fail
    have HX2 := Lib.hid (Box.off HXr.out.2 (show w.heap.size + 1 ≠ w.heap.size by omega) 1 (.int .i64 t))
    have HB2 := Lib.hid (HBr.out.setCell (p := ⟨w.heap.size, 1, none⟩) (Nat.le_refl _) (.int .i64 t))
    have HA2 := Lib.hid (And.intro (HAr.out.1.1.off HAr.out.2.1 1 (.int .i64 t)) (HAr.out.1.2.off HAr.out.2.2 1 (.int .i64 t)))
    clear y0 y1 y2 y3 y4 y5 y6 y7 f0 f1 f2 f3 f4 f5 f6 f7 hly HXr HBr HAr
    generalize wy.setCell ⟨w.heap.size, 1, none⟩ (.int .i64 t) = w2 at *
    refine (swallow_any k t z zc ct sm z A1 B1 c1 d1 (mv s t P) (mv s t Q) w2 HA2.out.1 HA2.out.2 (by rw [mv_length]; exact hl1) (by rw [mv_length]; exact hl2) HG.out HO.out.z).mono ?_
    intro e w3 hR
    obtain ⟨A2, B2, c2, d2, rfl, hA2, hB2, hb2, nA2, nB2⟩ := hR.as HRR.out rfl
    have HR2 := Lib.hid (RetH.fin (c := c2) (d := d2) (E := 0) (g := w.heap.size + 1) (HB2.out.trans (hb2.mono HB2.out.size)) HB2.out.size (Box.lt HX2.out) (by omega) hA2 hB2 nA2 nB2)
    have HX3 := Lib.hid (Box.below HX2.out hb2)
    clear hR hA2 hB2 hb2 nA2 nB2 HRR
    obtain ⟨x0, x1, x2, x3, x4, x5, x6, x7⟩ := HX3.out.cells
    obtain ⟨f0, f1, f2, f3, f4, f5, f6, f7⟩ := HX3.out.frozen
    have hlt := HX3.out.lt
    obtain ⟨rk, rs, rz, rzc, rct, rsm, rP, rQ⟩ := r
    simp only [hvA]
    go_wp2_with fail
    exact bodyPost_ret (v := .tuple #[.agg #[.int .i64 rk, .int .i64 rs, .int .i64 rz, .int .u64 rzc, .int .u64 rct, .int .i64 rsm, .slice A2 rP.length c2, .slice B2 rQ.length d2], .int .i64 0]) (by simp [results, Tryz.results142, go_sem, x0, x1, x2, x3, x4, x5, x6, x7]) rfl (HR2.out _ _ _ _ _ _ _ _)
end Go.Proofs.YtakomfnajeolcaaGreatDoor
