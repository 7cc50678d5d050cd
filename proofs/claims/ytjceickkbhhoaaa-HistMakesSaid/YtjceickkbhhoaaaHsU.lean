/- The law HistMakes: its walk. -/
import Derived.Test.YtjceickkbhhoaaaHsT
namespace Go.Proofs.Ytjceickkbhhoaaa
open Go.RowKit Go.Sort Go.Maps
set_option linter.unusedVariables false

theorem below_box8 {w0 : World} {g : Nat} {t : TypeId} {v0 v1 v2 v3 v4 v5 v6 v7 : Value} (h : w0.heap[g]? = some (.cells #[v0, v1, v2, v3, v4, v5, v6, v7] t (0, 0))) (W : World) (hb : RowKit.Below w0.heap.size w0 W) :
    W.cell? ⟨g, 0, none⟩ = some v0 ∧ W.cell? ⟨g, 1, none⟩ = some v1 ∧ W.cell? ⟨g, 2, none⟩ = some v2 ∧ W.cell? ⟨g, 3, none⟩ = some v3 ∧ W.cell? ⟨g, 4, none⟩ = some v4 ∧ W.cell? ⟨g, 5, none⟩ = some v5 ∧ W.cell? ⟨g, 6, none⟩ = some v6 ∧ W.cell? ⟨g, 7, none⟩ = some v7 ∧ g < W.heap.size := by
  have hg : g < w0.heap.size := (Array.getElem?_eq_some_iff.1 h).1
  obtain ⟨a, b, c, d, e, f, g', i, _⟩ := box8 ((hb.block g hg).trans h)
  exact ⟨a, b, c, d, e, f, g', i, Nat.lt_of_lt_of_le hg hb.size⟩
theorem below_box8f {w0 : World} {g : Nat} {t : TypeId} {v0 v1 v2 v3 v4 v5 v6 v7 : Value} (h : w0.heap[g]? = some (.cells #[v0, v1, v2, v3, v4, v5, v6, v7] t (0, 0))) (W : World) (hb : RowKit.Below w0.heap.size w0 W) :
    W.cell? ⟨g, 0, none⟩ = some v0 ∧ W.cell? ⟨g, 1, none⟩ = some v1 ∧ W.cell? ⟨g, 2, none⟩ = some v2 ∧ W.cell? ⟨g, 3, none⟩ = some v3 ∧ W.cell? ⟨g, 4, none⟩ = some v4 ∧ W.cell? ⟨g, 5, none⟩ = some v5 ∧ W.cell? ⟨g, 6, none⟩ = some v6 ∧ W.cell? ⟨g, 7, none⟩ = some v7 ∧ ∀ i, W.frozen? ⟨g, i, none⟩ = false :=
  box8 ((hb.block g (Array.getElem?_eq_some_iff.1 h).1).trans h)
def TurnRel (P : List (Int × Int)) (b : Nat) (w3 : World) (t i : Value) (wr : World) : Prop :=
  ∃ (j : Nat) (A' : Option Addr) (c' : Nat), j ≤ P.length ∧ i = .int .i64 j ∧ t = .slice A' j c' ∧ wr.ownsRow w3.heap.size 35 2 (.slice A' j c') j (cellsL ((rot P b).take j)) ∧ Below w3.heap.size w3 wr

theorem alloc_21 (w : World) (a b : Obj) : ((w.alloc a).alloc b).heap[w.heap.size]? = some a := (Below.heap_alloc _ _ _ (by simp)).trans (heap_alloc_new w a)
theorem alloc_22 (w : World) (a b : Obj) : ((w.alloc a).alloc b).heap[w.heap.size + 1]? = some b := by
  have := heap_alloc_new (w.alloc a) b
  simpa using this
theorem keepZ1 {w w4 : World} {q : Nat} {o : Obj} {row : Option Nat} (hg : (((w.drewN q).alloc (.cells #[.int .i64 0, .int .i64 0, .int .i64 0, .int .u64 0, .int .u64 0, .int .i64 0, .slice none 0 0, .slice none 0 0] 25)).alloc o).grownBy w4 row) (hr : ∀ g, row = some g → g < w.heap.size) : w4.heap[w.heap.size]? = some (.cells #[.int .i64 0, .int .i64 0, .int .i64 0, .int .u64 0, .int .u64 0, .int .i64 0, .slice none 0 0, .slice none 0 0] 25) := by
  rw [hg.block w.heap.size (by simp; omega) (fun e => by have := hr _ e.symm; omega)]
  exact alloc_21 (w.drewN q) _ _
theorem keepZ2 {w w4 : World} {q : Nat} {o : Obj} {row : Option Nat} (hg : (((w.drewN q).alloc o).alloc (.cells #[.int .i64 0, .int .i64 0, .int .i64 0, .int .u64 0, .int .u64 0, .int .i64 0, .slice none 0 0, .slice none 0 0] 25)).grownBy w4 row) (hr : ∀ g, row = some g → g < w.heap.size) : w4.heap[w.heap.size + 1]? = some (.cells #[.int .i64 0, .int .i64 0, .int .i64 0, .int .u64 0, .int .u64 0, .int .i64 0, .slice none 0 0, .slice none 0 0] 25) := by
  rw [hg.block (w.heap.size + 1) (by simp) (fun e => by have := hr _ e.symm; omega)]
  exact alloc_22 (w.drewN q) _ _
/-- the second Make, of the buckets turned about and one that is empty: the same -/
theorem make_two {k s z zc ct sm : Int} {P Q X1 Y1 : List (Int × Int)} {bn : Nat} {k1 s1 zz1 zc1 ct1 sm1 E1 : Int} {A0 B0 B : Option Addr} {n0 c0 m0 d0 d g cap : Nat} {W w3 : World} (h1 : MkOut k s z zc sm P Q k1 s1 zz1 zc1 ct1 sm1 X1 Y1 E1) (hs : I64 s) (z0 : 0 ≤ zc) (z1 : zc ≤ 18446744073709551615) (hw : ∀ p ∈ P, Wb p) (hlp : P.length ≤ 100) (hlq : Q.length ≤ 100) (hQ : Bk W B Q)
    (ho : W.ownsRow w3.heap.size 35 2 (.slice (some ⟨g, 0, none⟩) (P.length + 1) cap) (P.length + 1) (cellsL (rot P bn) ++ encB (1, 0))) :
    Calls Try.prog 17 #[.agg #[.int .i64 k, .int .i64 s, .int .i64 z, .int .u64 zc, .int .u64 ct, .int .i64 sm, .slice A0 n0 c0, .slice B0 m0 d0], .slice (some ⟨g, 0, none⟩) (P.length + 1) cap, .slice B Q.length d] W fun e w' =>
      ∃ (A2 C2 : Option Addr) (c2 d2 : Nat), e = .returned (.tuple #[.agg #[.int .i64 k1, .int .i64 s1, .int .i64 zz1, .int .u64 zc1, .int .u64 ct1, .int .i64 sm1, .slice A2 X1.length c2, .slice C2 Y1.length d2], .int .i64 E1]) ∧ Bk w' A2 X1 ∧ Bk w' C2 Y1 ∧ (NewA W A2 ∧ NewA W C2) ∧ RowKit.Below W.heap.size W w' := by
  have hl : (rot P bn ++ [((1 : Int), (0 : Int))]).length = P.length + 1 := by simp [rot_length]
  have hc : cellsL (rot P bn ++ [((1 : Int), (0 : Int))]) = cellsL (rot P bn) ++ encB (1, 0) := by simp [cellsL]
  have hwb : ∀ p ∈ rot P bn ++ [((1 : Int), (0 : Int))], Wb p := by
    intro p hp
    rcases List.mem_append.1 hp with hp | hp
    · exact hw p (rot_mem P bn p hp)
    · simp at hp; subst hp; exact ⟨by decide, by decide, by decide, by decide⟩
  rw [← hc] at ho
  have hP := own_bk ho hwb (by omega)
  rw [← hl]
  refine (make_res k s z zc ct sm A0 B0 (some ⟨g, 0, none⟩) B n0 c0 m0 d0 cap d (rot P bn ++ [(1, 0)]) Q W hs z0 z1 hP hQ (by omega) (by omega)).mono ?_
  rintro e w' ⟨k2, s2, zz2, zc2, ct2, sm2, A2, C2, c2, d2, X2, Y2, E2, rfl, hM2, hX2, hY2, _, _, hN, hb⟩
  obtain ⟨t1, t2⟩ := turned_same (s := s) P Q bn
  obtain ⟨rfl, rfl, rfl, rfl, rfl, rfl, rfl, rfl, rfl⟩ := MkOut.one t1 t2 h1 hM2
  exact ⟨A2, C2, c2, d2, rfl, hX2, hY2, hN, hb⟩
/-- behind the second Make -/
def CutR (w3 : World) (k1 s1 zz1 zc1 ct1 sm1 E1 : Int) (X1 Y1 : List (Int × Int)) (s13 s14 : Value) (wx : World) : Prop :=
  ∃ (g : Nat) (A2 C2 : Option Addr) (c2 d2 : Nat), s13 = .pointer (some ⟨g, 0, none⟩) ∧ s14 = .int .i64 E1 ∧
    wx.heap[g]? = some (.cells #[.int .i64 k1, .int .i64 s1, .int .i64 zz1, .int .u64 zc1, .int .u64 ct1, .int .i64 sm1, .slice A2 X1.length c2, .slice C2 Y1.length d2] 25 (0, 0)) ∧ Bk wx A2 X1 ∧ Bk wx C2 Y1 ∧ Below w3.heap.size w3 wx
theorem keep8 {W w5 : World} {b : Nat} {o : Obj} (h : W.heap[b]? = some o) (hb : Below W.heap.size W w5) : w5.heap[b]? = some o ∧ b < W.heap.size := by
  have hg : b < W.heap.size := (Array.getElem?_eq_some_iff.1 h).1
  exact ⟨(hb.block b hg).trans h, hg⟩
theorem cutR_late {w3 w5 W : World} {k1 s1 zz1 zc1 ct1 sm1 E1 : Int} {X1 Y1 : List (Int × Int)} {A2 C2 : Option Addr} {c2 d2 : Nat} (h : Bk w5 A2 X1 ∧ Bk w5 C2 Y1 ∧ NewA W A2 ∧ NewA W C2) (hB : Below w3.heap.size w3 w5) :
    CutR w3 k1 s1 zz1 zc1 ct1 sm1 E1 X1 Y1 (.pointer (some ⟨w5.heap.size, 0, none⟩)) (.int .i64 E1) (w5.alloc (.cells #[.int .i64 k1, .int .i64 s1, .int .i64 zz1, .int .u64 zc1, .int .u64 ct1, .int .i64 sm1, .slice A2 X1.length c2, .slice C2 Y1.length d2] 25)) :=
  ⟨_, A2, C2, c2, d2, rfl, rfl, heap_alloc_new w5 _, h.1.below ((Below.refl _ _).alloc (Nat.le_refl _) _), h.2.1.below ((Below.refl _ _).alloc (Nat.le_refl _) _), hB.alloc hB.size _⟩
theorem cutR_early {w3 w5 W : World} {k1 s1 zz1 zc1 ct1 sm1 E1 : Int} {X1 Y1 : List (Int × Int)} {A2 C2 : Option Addr} {c2 d2 b : Nat} {v0 v1 v2 v3 v4 v5 v6 v7 : Value} (h8 : w5.heap[b]? = some (.cells #[v0, v1, v2, v3, v4, v5, v6, v7] 25 (0, 0)) ∧ b < W.heap.size) (h : Bk w5 A2 X1 ∧ Bk w5 C2 Y1 ∧ NewA W A2 ∧ NewA W C2) (hb3 : w3.heap.size ≤ b) (hB : Below w3.heap.size w3 w5) :
    CutR w3 k1 s1 zz1 zc1 ct1 sm1 E1 X1 Y1 (.pointer (some ⟨b, 0, none⟩)) (.int .i64 E1) ((((((((w5.setCell ⟨b, 0, none⟩ (.int .i64 k1)).setCell ⟨b, 1, none⟩ (.int .i64 s1)).setCell ⟨b, 2, none⟩ (.int .i64 zz1)).setCell ⟨b, 3, none⟩ (.int .u64 zc1)).setCell ⟨b, 4, none⟩ (.int .u64 ct1)).setCell ⟨b, 5, none⟩ (.int .i64 sm1)).setCell ⟨b, 6, none⟩ (.slice A2 X1.length c2)).setCell ⟨b, 7, none⟩ (.slice C2 Y1.length d2)) := by
  have e8 := heap_set_at (i := 7) (heap_set_at (i := 6) (heap_set_at (i := 5) (heap_set_at (i := 4) (heap_set_at (i := 3) (heap_set_at (i := 2) (heap_set_at (i := 1) (heap_set_at (i := 0) h8.1 (.int .i64 k1)) (.int .i64 s1)) (.int .i64 zz1)) (.int .u64 zc1)) (.int .u64 ct1)) (.int .i64 sm1)) (.slice A2 X1.length c2)) (.slice C2 Y1.length d2)
  have hk : ∀ p : Addr, W.heap.size ≤ p.block → ((((((((w5.setCell ⟨b, 0, none⟩ (.int .i64 k1)).setCell ⟨b, 1, none⟩ (.int .i64 s1)).setCell ⟨b, 2, none⟩ (.int .i64 zz1)).setCell ⟨b, 3, none⟩ (.int .u64 zc1)).setCell ⟨b, 4, none⟩ (.int .u64 ct1)).setCell ⟨b, 5, none⟩ (.int .i64 sm1)).setCell ⟨b, 6, none⟩ (.slice A2 X1.length c2)).setCell ⟨b, 7, none⟩ (.slice C2 Y1.length d2)).cell? p = w5.cell? p := fun p hp => by
    have hne : ∀ j, (⟨b, j, none⟩ : Addr) ≠ p := fun j e => by subst e; have := h8.2; simp at hp; omega
    rw [World.cell?_setCell_other _ _ _ _ (hne 7), World.cell?_setCell_other _ _ _ _ (hne 6), World.cell?_setCell_other _ _ _ _ (hne 5), World.cell?_setCell_other _ _ _ _ (hne 4), World.cell?_setCell_other _ _ _ _ (hne 3), World.cell?_setCell_other _ _ _ _ (hne 2), World.cell?_setCell_other _ _ _ _ (hne 1), World.cell?_setCell_other _ _ _ _ (hne 0)]
  refine ⟨b, A2, C2, c2, d2, rfl, rfl, e8.trans ?_, h.1.keepNew h.2.2.1 hk, h.2.1.keepNew h.2.2.2 hk, ?_⟩
  · simp
  · repeat (refine RowKit.Below.setCell ?_ hb3 _)
    exact hB
theorem _root_.Go.Proofs.Ytjceickkbhhoaaa.MkOut.fine {k s z zc sm : Int} {P Q : List (Int × Int)} {k1 s1 z1 zc1 ct1 sm1 : Int} {X1 Y1 : List (Int × Int)} (h : MkOut k s z zc sm P Q k1 s1 z1 zc1 ct1 sm1 X1 Y1 0) : X1.length ≤ 512 ∧ Y1.length ≤ 512 ∧ checkF k1 s1 z1 zc1 ct1 X1 Y1 = 0 := by
  rcases h with ⟨n1, _⟩ | ⟨_, l1, a1, a2, a3, a4, c1, rfl, rfl, rfl, rfl, rfl, rfl⟩
  · exact absurd rfl n1
  · obtain ⟨_, q1, q2, q3, q4⟩ := check_zero c1
    exact ⟨(side_zero q1).1, (side_zero q2).1, c1⟩
theorem isame_self (k s z zc ct sm : Int) (A B A' B' : Option Addr) (c d c' d' : Nat) (P Q : List (Int × Int)) (w : World) (hP : Bk w A P) (hQ : Bk w B Q) (hP' : Bk w A' P) (hQ' : Bk w B' Q) :
    Calls Try.prog 12 #[.agg #[.int .i64 k, .int .i64 s, .int .i64 z, .int .u64 zc, .int .u64 ct, .int .i64 sm, .slice A P.length c, .slice B Q.length d], .agg #[.int .i64 k, .int .i64 s, .int .i64 z, .int .u64 zc, .int .u64 ct, .int .i64 sm, .slice A' P.length c', .slice B' Q.length d']] w fun e w' => e = .returned (.bool true) ∧ Below w.heap.size w w' := by
  refine (isame_any k s z zc ct sm k s z zc ct sm A B A' B' c d c' d' P Q P Q w hP hQ hP' hQ').mono ?_
  rintro e w' ⟨rfl, hb⟩
  exact ⟨by rw [sameF_yes ⟨rfl, rfl, rfl, rfl, rfl, rfl⟩]; simp [eqL], hb⟩
theorem check_ok (k s z zc ct : Int) (sm : Value) (A B : Option Addr) (c d : Nat) (P Q : List (Int × Int)) (w : World) (z0 : 0 ≤ zc) (z1 : zc ≤ 18446744073709551615) (hP : Bk w A P) (hQ : Bk w B Q) (h : checkF k s z zc ct P Q = 0) :
    Calls Try.prog 16 #[.agg #[.int .i64 k, .int .i64 s, .int .i64 z, .int .u64 zc, .int .u64 ct, sm, .slice A P.length c, .slice B Q.length d]] w fun e w' => e = .returned (.int .i64 0) ∧ Below w.heap.size w w' := by
  refine (check_any k s z zc ct sm A B c d P Q w z0 z1 hP hQ).mono ?_
  rintro e w' ⟨rfl, hb⟩
  exact ⟨by rw [h], hb⟩
set_option maxHeartbeats 40000000 in
set_option maxRecDepth 100000 in
theorem makes_main (k s z zc ct sm : Int) (A0 B0 A B : Option Addr) (n0 c0 m0 d0 c d : Nat) (P Q : List (Int × Int)) (bn : Nat) (w : World) (hs : I64 s) (z0 : 0 ≤ zc) (z1 : zc ≤ 18446744073709551615) (hP : Bk w A P) (hQ : Bk w B Q) (hlp : P.length ≤ 100) (hlq : Q.length ≤ 100) (hbn : bn ≤ 255) (hn0 : n0 ≤ 600) (hm0 : m0 ≤ 600) :
    Calls Try.prog 5 #[.agg #[.int .i64 k, .int .i64 s, .int .i64 z, .int .u64 zc, .int .u64 ct, .int .i64 sm, .slice A0 n0 c0, .slice B0 m0 d0], .slice A P.length c, .slice B Q.length d, .int .u8 (bn : Int)] w fun e w' => e = .returned (.bool true) ∧ Below w.heap.size w w' := by
  have hb0 : Below w.heap.size w (w.alloc (.cells #[.int .i64 k, .int .i64 s, .int .i64 z, .int .u64 zc, .int .u64 ct, .int .i64 sm, .slice A0 n0 c0, .slice B0 m0 d0] 25)) := (Below.refl _ _).alloc (Nat.le_refl _) _
  have HP := Lib.hid (hP.below hb0)
  have HQ := Lib.hid (hQ.below hb0)
  have HB0 := Lib.hid hb0
  have HBX := Lib.hid (below_box8 (heap_alloc_new w (.cells #[.int .i64 k, .int .i64 s, .int .i64 z, .int .u64 zc, .int .u64 ct, .int .i64 sm, .slice A0 n0 c0, .slice B0 m0 d0] 25)))
  clear hP hQ hb0
  go_enter Try.func5, Try.ntmps5
  go_wp2_with fail
  refine (light_any _ _ _ _ _ _ _ _ _ _ _ _ _ true (by rw [decide_eq_true hn0, decide_eq_true hm0]; rfl)).mono ?_
  rintro e w1 ⟨rfl, hb1⟩
  have HB1 := Lib.hid hb1
  obtain ⟨x0, x1, x2, x3, x4, x5, x6, x7, x8⟩ := HBX.out w1 hb1
  clear hb1
  go_wp2_with fail
  refine (make_res k s z zc ct sm A0 B0 A B n0 c0 m0 d0 c d P Q w1 hs z0 z1 (HP.out.below HB1.out) (HQ.out.below HB1.out) (by omega) (by omega)).mono ?_
  rintro e w2 ⟨k1, s1, zz1, zc1, ct1, sm1, A1, C1, c1, d1, X1, Y1, E1, rfl, hM1, hX1, hY1, hs1, hz1, _, hb2⟩
  have HB2 := Lib.hid (HB1.out.trans (hb2.mono HB1.out.size))
  have HM1 := Lib.hid hM1
  have HX1 := Lib.hid (And.intro hX1 hY1)
  clear hM1 hX1 hY1 hb2 x0 x1 x2 x3 x4 x5 x6 x7 x8
  go_wp2_with fail
  obtain ⟨g9, hg9⟩ : ∃ g, w2.heap.size = g := ⟨_, rfl⟩
  obtain ⟨w3, hw3⟩ : ∃ W, w2.alloc (.cells #[.int .i64 k1, .int .i64 s1, .int .i64 zz1, .int .u64 zc1, .int .u64 ct1, .int .i64 sm1, .slice A1 X1.length c1, .slice C1 Y1.length d1] 25) = W := ⟨_, rfl⟩
  have hbox9 : w3.heap[g9]? = some (.cells #[.int .i64 k1, .int .i64 s1, .int .i64 zz1, .int .u64 zc1, .int .u64 ct1, .int .i64 sm1, .slice A1 X1.length c1, .slice C1 Y1.length d1] 25 (0, 0)) := by rw [← hw3, ← hg9]; exact heap_alloc_new w2 _
  have hb3 : Below (w.alloc (.cells #[.int .i64 k, .int .i64 s, .int .i64 z, .int .u64 zc, .int .u64 ct, .int .i64 sm, .slice A0 n0 c0, .slice B0 m0 d0] 25)).heap.size (w.alloc (.cells #[.int .i64 k, .int .i64 s, .int .i64 z, .int .u64 zc, .int .u64 ct, .int .i64 sm, .slice A0 n0 c0, .slice B0 m0 d0] 25)) w3 := by rw [← hw3]; exact HB2.out.alloc HB2.out.size _
  have HX3 := Lib.hid (show Bk w3 A1 X1 ∧ Bk w3 C1 Y1 from by rw [← hw3]; exact ⟨HX1.out.1.below ((Below.refl _ _).alloc (Nat.le_refl _) _), HX1.out.2.below ((Below.refl _ _).alloc (Nat.le_refl _) _)⟩)
  have HB3 := Lib.hid hb3
  have HB9 := Lib.hid (below_box8 hbox9)
  have HP3 := Lib.hid (HP.out.below hb3)
  have HQ3 := Lib.hid (HQ.out.below hb3)
  have HBH := Lib.hid (fun (W : World) (hW : Below w3.heap.size w3 W) => HBX.out W (hb3.trans (hW.mono hb3.size)))
  have HF := Lib.hid (fun (W : World) (hW : Below w3.heap.size w3 W) => HB0.out.trans ((hb3.trans (hW.mono hb3.size)).mono HB0.out.size))
  rw [hw3, hg9]
  clear hw3 hg9 hbox9 hb3 HX1 HB2
  obtain ⟨i0, hi, hz0', hz1', hz2'⟩ := info_parts infoB
  go_loopw [11, 40] (fun t i wr => TurnRel P bn w3 t i wr) (fun _ i _ => P.length - (intOf i).toNat)
  case atStart => exact ⟨0, none, 0, by omega, rfl, rfl, World.ownsRow_nil _ _ _ _, Below.refl _ _⟩
  case round =>
    obtain ⟨j, A', c', hj, rfl, rfl, hown, hb⟩ := hrel
    have HO := Lib.hid hown
    have HB := Lib.hid hb
    clear hown hb
    by_cases hlt : j < P.length
    · obtain ⟨b', off', rfl, hc'⟩ := (HP3.out.below HB.out).some_ (by omega)
      obtain ⟨m, hm⟩ : ∃ m, (j + bn) % P.length = m := ⟨_, rfl⟩
      have hml : m < P.length := by rw [← hm]; exact Nat.mod_lt _ (by omega)
      obtain ⟨p, hp⟩ := getElem?_lt hml
      obtain ⟨q1, q2⟩ := hc' m p hp
      have hmi : ((j : Int) + (bn : Int)) % (P.length : Int) = (m : Int) := by rw [← hm]; push_cast; rfl
      have HN := Lib.hid (show (rot P bn).take (j + 1) = (rot P bn).take j ++ [p] from take_snoc _ _ _ (by rw [rot_at P bn j hlt, hm]; exact hp))
      obtain ⟨pi, pc⟩ := p
      simp only at q1 q2
      have hm0i : (0 : Int) ≤ (m : Int) := by omega
      have hm1i : (m : Int) < (P.length : Int) := by omega
      have hji : (j : Int) < (P.length : Int) := by omega
      have hlb := block_lt_of_cell q1
      simp only at hlb
      clear hc' hp hm
      go_wp2_with (at_builtin; refine wpList_append_lies _ rfl _ _ 23 rfl w3.heap.size 35 i0 (.agg #[.int .i64 0, .int .u64 0]) 2 16 Try.underlying23 hi hz0' hz1' hz2' rfl (by decide) (.slice A' j c') j (cellsL ((rot P bn).take j)) rfl (HO.out.alloc _) ⟨wr.heap.size, 0, none⟩ 1 1 (encB (pi, pc)) rfl rfl (World.news_of_block (heap_alloc_new _ _)) ?n1 (by decide) (by unfold maxLen; omega) (by omega) ?n2 _ rfl ?_)
      case n1 => intro u hu; simp [encB] at hu; rcases hu with rfl | rfl <;> rfl
      case n2 => have := HB.out.size; simp; omega
      intro g cap w4 hown4 hgrow4 hat4 hlt4
      have HN4 := Lib.hid (show w4.ownsRow w3.heap.size 35 2 (.slice (some ⟨g, 0, none⟩) (j + 1) cap) (j + 1) (cellsL ((rot P bn).take (j + 1))) ∧ Below w3.heap.size w3 w4 from
        ⟨by rw [HN.out, cellsL_append]; simpa [cellsL] using hown4, (HB.out.alloc HB.out.size _).grown hgrow4 (by have := HB.out.size; simp; omega) (fun k hk => (HO.out.lt k hk).1)⟩)
      clear hown4 hgrow4 hat4 hlt4
      go_wp2_with fail
      go_roundw
      case rel => exact ⟨j + 1, _, cap, by omega, by go_num, rfl, HN4.out.1, HN4.out.2⟩
      case measure => simp [intOf]; omega
    · obtain rfl : j = P.length := by omega
      have hji : ¬ ((P.length : Int) < (P.length : Int)) := by omega
      have HT := Lib.hid (show wr.ownsRow w3.heap.size 35 2 (.slice A' P.length c') P.length (cellsL (rot P bn)) from by
        have h := HO.out
        rw [show (rot P bn).take P.length = rot P bn from List.take_of_length_le (by rw [rot_length]; omega)] at h
        exact h)
      obtain ⟨x0, x1, x2, x3, x4, x5, x6, x7, x8⟩ := HBH.out wr HB.out
      have HMK := Lib.hid (fun (W : World) (g cap : Nat) (hb : Below w3.heap.size w3 W) (ho : W.ownsRow w3.heap.size 35 2 (.slice (some ⟨g, 0, none⟩) (P.length + 1) cap) (P.length + 1) (cellsL (rot P bn) ++ encB (1, 0))) => make_two (ct := ct) (A0 := A0) (B0 := B0) (n0 := n0) (c0 := c0) (m0 := m0) (d0 := d0) (d := d) HM1.out hs z0 z1 HP3.out.2.1 hlp hlq (HQ3.out.below hb) ho)
      have HT1 := Lib.hid (show (wr.drewN 1).ownsRow w3.heap.size 35 2 (.slice A' P.length c') P.length (cellsL (rot P bn)) from HT.out)
      have HROW := Lib.hid (fun g (hg : (Value.slice A' P.length c').ownBlock = some g) => (HT.out.lt g hg).2)
      have hsw := HB.out.size
      go_wp2_with fail
      go_cut [13, 14] from 17 (fun s13 s14 wx => CutR w3 k1 s1 zz1 zc1 ct1 sm1 E1 X1 Y1 s13 s14 wx)
      case first =>
        go_region_law (first
          | (refine step_append_lies _ rfl (.tmp 59) (.tmp 61) 23 rfl w3.heap.size 35 i0 (.agg #[.int .i64 0, .int .u64 0]) 2 16 Try.underlying23 hi hz0' hz1' hz2' rfl (by decide) (.slice A' P.length c') P.length (cellsL (rot P bn)) rfl (by first | exact HT1.out.alloc _ | exact (HT1.out.alloc _).alloc _) ⟨_, 0, none⟩ 1 1 (encB (1, 0)) rfl rfl (by first | exact World.news_of_block (heap_alloc_new _ _) | exact World.news_of_block (alloc_21 _ _ _) | exact World.news_of_block (alloc_22 _ _ _)) (fun u hu => by simp [encB] at hu; rcases hu with rfl | rfl <;> rfl) (by decide) (by unfold maxLen; omega) (by omega) (by simp; omega) _ rfl ?_; intro g cap w4 hown4 hgrow4 hat4 hlt4; have hB4 : Below w3.heap.size w3 w4 := Below.grown (by first | exact (below_drewN HB.out 1).alloc hsw _ | exact ((below_drewN HB.out 1).alloc hsw _).alloc (by simp; omega) _) hgrow4 (by simp; omega) (fun k hk => (HT.out.lt k hk).1); (first | (have HZ4 := Lib.hid (keepZ1 (q := 1) hgrow4 HROW.out)) | (have HZ4 := Lib.hid (keepZ2 (q := 1) hgrow4 HROW.out)) | skip); obtain ⟨a0, a1, a2, a3, a4, a5, a6, a7, a8⟩ := HBH.out w4 hB4; have HO4 := Lib.hid hown4; have HB4 := Lib.hid hB4; clear hown4 hgrow4 hat4 hlt4 hB4)
          | (go_simp; go_at_call 17; (refine (HMK.out _ _ _ (by first | exact HB4.out | exact HB4.out.alloc HB4.out.size _) (by first | exact HO4.out | exact HO4.out.alloc _)).mono ?_); rintro e w5 ⟨A2, C2, c2, d2, rfl, hX2, hY2, hN2, hb5⟩; have HR5 := Lib.hid (And.intro hX2 (And.intro hY2 hN2)); (first | (have HZ5 := Lib.hid (keep8 HZ4.out hb5); obtain ⟨y0, y1, y2, y3, y4, y5, y6, y7, fy⟩ := box8 HZ5.out.1; have f0 := fy 0; have f1 := fy 1; have f2 := fy 2; have f3 := fy 3; have f4 := fy 4; have f5 := fy 5; have f6 := fy 6; have f7 := fy 7; clear fy) | (have HZ5 := Lib.hid (keep8 (heap_alloc_new w4 (.cells #[.int .i64 0, .int .i64 0, .int .i64 0, .int .u64 0, .int .u64 0, .int .i64 0, .slice none 0 0, .slice none 0 0] 25)) hb5); obtain ⟨y0, y1, y2, y3, y4, y5, y6, y7, fy⟩ := box8 HZ5.out.1; have f0 := fy 0; have f1 := fy 1; have f2 := fy 2; have f3 := fy 3; have f4 := fy 4; have f5 := fy 5; have f6 := fy 6; have f7 := fy 7; clear fy) | skip); (first | (have HB35 := Lib.hid (HB4.out.trans (hb5.mono HB4.out.size))) | (have HB35 := Lib.hid ((HB4.out.alloc HB4.out.size _).trans (hb5.mono (HB4.out.alloc HB4.out.size _).size)))); have HB5 := Lib.hid hb5; clear hX2 hY2 hN2 hb5) | fail)
        all_goals (go_wp2_with fail)
        all_goals go_meet
        all_goals first
          | (have hz5 := HZ5.out; have hr5 := HR5.out; have hb35 := HB35.out; have hb4 := HB4.out.size; exact cutR_early hz5 hr5 (by omega) hb35)
          | (have hr5 := HR5.out; have hb35 := HB35.out; exact cutR_late hr5 hb35)
      case rest =>
        obtain ⟨g, A2, C2, c2, d2, rfl, rfl, hbx, hX2, hY2, hb5⟩ := hcut
        clear x0 x1 x2 x3 x4 x5 x6 x7 x8 hsw
        have HX2 := Lib.hid (And.intro hX2 hY2)
        obtain ⟨x0, x1, x2, x3, x4, x5, x6, x7, x8⟩ := HB9.out _ hb5
        obtain ⟨y0, y1, y2, y3, y4, y5, y6, y7, y8⟩ := box8 hbx
        have HB5 := Lib.hid hb5
        have hne : (E1 != E1) = false := by simp
        clear hbx hX2 hY2 hb5 y8
        by_cases hE : E1 = 0
        · subst hE
          go_wp2_with fail
          refine (isame_self _ _ _ _ _ _ _ _ _ _ _ _ _ _ _ _ _ (HX3.out.1.below HB5.out) (HX3.out.2.below HB5.out) HX2.out.1 HX2.out.2).mono ?_
          rintro e w6 ⟨rfl, hb6⟩
          have HB6 := Lib.hid (HB5.out.trans (hb6.mono HB5.out.size))
          clear x0 x1 x2 x3 x4 x5 x6 x7 x8 y0 y1 y2 y3 y4 y5 y6 y7 hb6
          obtain ⟨x0, x1, x2, x3, x4, x5, x6, x7, x8⟩ := HB9.out _ HB6.out
          go_wp2_with fail
          obtain ⟨l1, l2, hck⟩ : X1.length ≤ 512 ∧ Y1.length ≤ 512 ∧ checkF k1 s1 zz1 zc1 ct1 X1 Y1 = 0 := HM1.out.fine
          have HCK := Lib.hid hck
          clear hck
          refine (make_res _ _ _ _ _ _ _ _ _ _ _ _ _ _ _ _ X1 Y1 _ hs1 hz1.1 hz1.2 (HX3.out.1.below HB6.out) (HX3.out.2.below HB6.out) (by omega) (by omega)).mono ?_
          rintro e w7 ⟨k2, s2, zz2, zc2, ct2, sm2, A3, C3, c3, d3, X3, Y3, E3, rfl, hM3, hX3, hY3, _, _, _, hb7⟩
          obtain ⟨⟨rfl, rfl, rfl, rfl, rfl, rfl, rfl, rfl, rfl⟩, _⟩ := MkOut.again HM1.out rfl HX3.out.1.2.1 HX3.out.2.2.1 hM3
          have HX7 := Lib.hid (And.intro hX3 hY3)
          have HB7 := Lib.hid (HB6.out.trans (hb7.mono HB6.out.size))
          clear x0 x1 x2 x3 x4 x5 x6 x7 x8 hM3 hX3 hY3 hb7
          obtain ⟨x0, x1, x2, x3, x4, x5, x6, x7, x8⟩ := HB9.out _ HB7.out
          go_wp2_with fail
          obtain ⟨w8, hw8⟩ : ∃ W, w7.alloc (.cells #[.int .i64 k2, .int .i64 s2, .int .i64 zz2, .int .u64 zc2, .int .u64 ct2, .int .i64 sm2, .slice A3 X3.length c3, .slice C3 Y3.length d3] 25) = W := ⟨_, rfl⟩
          have hbox8 : w8.heap[w7.heap.size]? = some (.cells #[.int .i64 k2, .int .i64 s2, .int .i64 zz2, .int .u64 zc2, .int .u64 ct2, .int .i64 sm2, .slice A3 X3.length c3, .slice C3 Y3.length d3] 25 (0, 0)) := by rw [← hw8]; exact heap_alloc_new w7 _
          have HX8 := Lib.hid (show Bk w8 A3 X3 ∧ Bk w8 C3 Y3 from by rw [← hw8]; exact ⟨HX7.out.1.below ((Below.refl _ _).alloc (Nat.le_refl _) _), HX7.out.2.below ((Below.refl _ _).alloc (Nat.le_refl _) _)⟩)
          have HB8 := Lib.hid (show Below w3.heap.size w3 w8 from by rw [← hw8]; exact HB7.out.alloc HB7.out.size _)
          have HBY := Lib.hid (below_box8 hbox8)
          rw [hw8]
          clear hw8 hbox8
          clear x0 x1 x2 x3 x4 x5 x6 x7 x8
          refine (awake05 _).mono ?_
          rintro e w9 ⟨rfl, hb9⟩
          have HB9' := Lib.hid (HB8.out.trans (hb9.mono HB8.out.size))
          have HX9 := Lib.hid (And.intro (HX8.out.1.below hb9) (HX8.out.2.below hb9))
          obtain ⟨x0, x1, x2, x3, x4, x5, x6, x7, x8⟩ := HB9.out _ HB9'.out
          obtain ⟨y0, y1, y2, y3, y4, y5, y6, y7, y8⟩ := HBY.out _ hb9
          clear hb9
          go_wp2_with fail
          refine (isame_self _ _ _ _ _ _ _ _ _ _ _ _ _ _ _ _ _ (HX3.out.1.below HB9'.out) (HX3.out.2.below HB9'.out) HX9.out.1 HX9.out.2).mono ?_
          rintro e w10 ⟨rfl, hb10⟩
          have HB10 := Lib.hid (HB9'.out.trans (hb10.mono HB9'.out.size))
          clear x0 x1 x2 x3 x4 x5 x6 x7 x8 y0 y1 y2 y3 y4 y5 y6 y7 y8 hb10
          obtain ⟨x0, x1, x2, x3, x4, x5, x6, x7, x8⟩ := HB9.out _ HB10.out
          go_wp2_with fail
          refine (check_ok _ _ _ _ _ _ _ _ _ _ _ _ _ hz1.1 hz1.2 (HX3.out.1.below HB10.out) (HX3.out.2.below HB10.out) HCK.out).mono ?_
          rintro e w11 ⟨rfl, hb11⟩
          have HB11 := Lib.hid (HB10.out.trans (hb11.mono HB10.out.size))
          clear x0 x1 x2 x3 x4 x5 x6 x7 x8 hb11
          go_wp2_with fail
          go_ret
          exact ⟨rfl, HF.out _ HB11.out⟩
        · have hn1 : (E1 != 0) = true := by simpa using hE
          have hn2 : (E1 == 0) = false := by simpa using hE
          have HE := Lib.hid hE
          clear hE
          go_wp2_with fail
          refine (isame_self _ _ _ _ _ _ _ _ _ _ _ _ _ _ _ _ _ (HX3.out.1.below HB5.out) (HX3.out.2.below HB5.out) HX2.out.1 HX2.out.2).mono ?_
          rintro e w6 ⟨rfl, hb6⟩
          have HB6 := Lib.hid (HB5.out.trans (hb6.mono HB5.out.size))
          clear x0 x1 x2 x3 x4 x5 x6 x7 x8 y0 y1 y2 y3 y4 y5 y6 y7 hb6
          go_wp2_with fail
          refine (awake05 _).mono ?_
          rintro e w9 ⟨rfl, hb9⟩
          have HB9' := Lib.hid (HB6.out.trans (hb9.mono HB6.out.size))
          clear hb9
          go_wp2_with fail
          go_ret
          exact ⟨rfl, HF.out _ HB9'.out⟩
end Go.Proofs.Ytjceickkbhhoaaa
