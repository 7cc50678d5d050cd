import Derived.Test.YtakomfnajeolcaaGreatDoorCtA18
set_option linter.unusedVariables false
/- The contract of Make. -/
namespace Go.Proofs.YtakomfnajeolcaaGreatDoor
open Go.RowKit Go.Sort Go.Maps
set_option linter.unusedVariables false

def zeroH : Value := .agg #[.int .i64 0, .int .i64 0, .int .i64 0, .int .u64 0, .int .u64 0, .int .i64 0, .slice none 0 0, .slice none 0 0]
def MakePost (w : World) (k s z zc sm : Int) (P Q : List (Int × Int)) (e : Ending) (w' : World) : Prop :=
  Below w.heap.size w w' ∧
  ((18446744073709551615 < zc + cnt (P ++ Q) ∧ e = .returned (.tuple #[zeroH, .int .i64 5])) ∨
   (zc + cnt (P ++ Q) ≤ 18446744073709551615 ∧ ∃ (A C : Option Addr) (c d : Nat) (X Y : List (Int × Int)), Bk w' A X ∧ Bk w' C Y ∧ Asc X ∧ Asc Y ∧ Side (gF s P Q) s 1 X ∧ Side (gF s P Q) s (-1) Y ∧ SzF X Y c d ∧ NewA w A ∧ NewA w C ∧
     ((checkF k s z zc (zc + cnt (P ++ Q)) X Y ≠ 0 ∧ e = .returned (.tuple #[zeroH, .int .i64 (checkF k s z zc (zc + cnt (P ++ Q)) X Y)])) ∨
      (checkF k s z zc (zc + cnt (P ++ Q)) X Y = 0 ∧ e = .returned (.tuple #[.agg #[.int .i64 k, .int .i64 s, .int .i64 z, .int .u64 zc, .int .u64 (zc + cnt (P ++ Q)), .int .i64 sm, .slice A X.length c, .slice C Y.length d], .int .i64 0])))))

theorem gF_fine {s : Int} {P Q : List (Int × Int)} (hP : ∀ p ∈ P, Wb p) (hQ : ∀ p ∈ Q, Wb p) (ht : cnt (P ++ Q) ≤ 18446744073709551615) : ∀ s' c i, I64 s' → I64 c → I64 i → gF s P Q s' c i ≠ 0 → U64 (gF s P Q s' c i) ∧ c = s ∧ (s' = 1 ∨ s' = -1) := by
  intro s' c i _ _ _ h
  have b1 := atI_bd hP i
  have b2 := atI_bd hQ i
  have c1 := cnt_nonneg hP
  have c2 := cnt_nonneg hQ
  rw [cnt_append] at ht
  unfold gF at *
  by_cases hc : c = s
  · rw [if_pos hc] at *
    by_cases h1 : s' = 1
    · rw [if_pos h1] at *
      exact ⟨⟨by omega, by omega⟩, hc, .inl h1⟩
    · rw [if_neg h1] at *
      by_cases h2 : s' = -1
      · rw [if_pos h2] at *
        exact ⟨⟨by omega, by omega⟩, hc, .inr h2⟩
      · rw [if_neg h2] at h
        exact absurd rfl h
  · rw [if_neg hc] at h
    exact absurd rfl h

/-- the eight cells of a block -/
theorem box8 {W : World} {g : Nat} {t : TypeId} {v0 v1 v2 v3 v4 v5 v6 v7 : Value} (h : W.heap[g]? = some (.cells #[v0, v1, v2, v3, v4, v5, v6, v7] t (0, 0))) :
    W.cell? ⟨g, 0, none⟩ = some v0 ∧ W.cell? ⟨g, 1, none⟩ = some v1 ∧ W.cell? ⟨g, 2, none⟩ = some v2 ∧ W.cell? ⟨g, 3, none⟩ = some v3 ∧ W.cell? ⟨g, 4, none⟩ = some v4 ∧ W.cell? ⟨g, 5, none⟩ = some v5 ∧ W.cell? ⟨g, 6, none⟩ = some v6 ∧ W.cell? ⟨g, 7, none⟩ = some v7 ∧ ∀ i, W.frozen? ⟨g, i, none⟩ = false :=
  ⟨by rw [cell_of_row _ _ _ _ _ _ h]; rfl, by rw [cell_of_row _ _ _ _ _ _ h]; rfl, by rw [cell_of_row _ _ _ _ _ _ h]; rfl, by rw [cell_of_row _ _ _ _ _ _ h]; rfl, by rw [cell_of_row _ _ _ _ _ _ h]; rfl, by rw [cell_of_row _ _ _ _ _ _ h]; rfl, by rw [cell_of_row _ _ _ _ _ _ h]; rfl, by rw [cell_of_row _ _ _ _ _ _ h]; rfl, fun i => by simp [World.frozen?, h]⟩
theorem box2 {W : World} {g : Nat} {t : TypeId} {v0 v1 : Value} (h : W.heap[g]? = some (.cells #[v0, v1] t (0, 0))) : W.cell? ⟨g, 0, none⟩ = some v0 ∧ W.cell? ⟨g, 1, none⟩ = some v1 :=
  ⟨by rw [cell_of_row _ _ _ _ _ _ h]; rfl, by rw [cell_of_row _ _ _ _ _ _ h]; rfl⟩
theorem tot_no {z : Int} {l : List (Int × Int)} (h : ¬ z + cnt l ≤ 18446744073709551615) : totE z l = 5 := by unfold totE; rw [if_neg h]
theorem tot_yes {z : Int} {l : List (Int × Int)} (h : z + cnt l ≤ 18446744073709551615) : totE z l = 0 ∧ totV z l = z + cnt l := by unfold totE totV; rw [if_pos h, if_pos h]; exact ⟨rfl, rfl⟩

theorem Bk.keepNew {w w' w1 : World} {A : Option Addr} {l : List (Int × Int)} (h : Bk w A l) (hn : NewA w1 A) (hk : ∀ p : Addr, w1.heap.size ≤ p.block → w'.cell? p = w.cell? p) : Bk w' A l := by
  obtain ⟨h1, h2, h3⟩ := h
  refine ⟨h1, h2, ?_⟩
  rcases h3 with h3 | ⟨b, off, e, hc⟩
  · exact .inl h3
  · have hb := hn _ e
    exact .inr ⟨b, off, e, fun j p hj => ⟨(hk ⟨b, off + j * 2, none⟩ hb).trans (hc j p hj).1, (hk ⟨b, off + j * 2 + 1, none⟩ hb).trans (hc j p hj).2⟩⟩
theorem make_mid {w w1 w4 w5 : World} {gZ : Nat} {A C : Option Addr} {c d n0 m0 c0 d0 : Nat} {A0 B0 : Option Addr} {X Y : List (Int × Int)} {k s z zc ct U sm : Int} {Z : Array Value}
    (h5 : (((w4.setCell ⟨w.heap.size, 4, none⟩ (.int .u64 U)).setCell ⟨w.heap.size, 6, none⟩ (.slice A X.length c)).setCell ⟨w.heap.size, 7, none⟩ (.slice C Y.length d)).drew = w5)
    (h1 : w4.heap[w.heap.size]? = some (.cells #[.int .i64 k, .int .i64 s, .int .i64 z, .int .u64 zc, .int .u64 ct, .int .i64 sm, .slice A0 n0 c0, .slice B0 m0 d0] 39 (0, 0))) (h2 : w4.heap[gZ]? = some (.cells Z 39 (0, 0))) (hz : gZ ≠ w.heap.size)
    (hX : Bk w4 A X) (hY : Bk w4 C Y) (nA : NewA w1 A) (nC : NewA w1 C) (hlt : w.heap.size < w1.heap.size) (hb : RowKit.Below w.heap.size w w4) :
    w5.heap[w.heap.size]? = some (.cells #[.int .i64 k, .int .i64 s, .int .i64 z, .int .u64 zc, .int .u64 U, .int .i64 sm, .slice A X.length c, .slice C Y.length d] 39 (0, 0)) ∧ w5.heap[gZ]? = some (.cells Z 39 (0, 0)) ∧ Bk w5 A X ∧ Bk w5 C Y ∧ RowKit.Below w.heap.size w w5 := by
  subst h5
  have e1 := heap_set_at (i := 7) (heap_set_at (i := 6) (heap_set_at (i := 4) h1 (.int .u64 U)) (.slice A X.length c)) (.slice C Y.length d)
  have hk : ∀ p : Addr, w1.heap.size ≤ p.block → (((w4.setCell ⟨w.heap.size, 4, none⟩ (.int .u64 U)).setCell ⟨w.heap.size, 6, none⟩ (.slice A X.length c)).setCell ⟨w.heap.size, 7, none⟩ (.slice C Y.length d)).drew.cell? p = w4.cell? p := fun p hp => by
    have hne : ∀ j, (⟨w.heap.size, j, none⟩ : Addr) ≠ p := fun j e => by subst e; simp at hp; omega
    show (((w4.setCell ⟨w.heap.size, 4, none⟩ (.int .u64 U)).setCell ⟨w.heap.size, 6, none⟩ (.slice A X.length c)).setCell ⟨w.heap.size, 7, none⟩ (.slice C Y.length d)).cell? p = w4.cell? p
    rw [World.cell?_setCell_other _ _ _ _ (hne 7), World.cell?_setCell_other _ _ _ _ (hne 6), World.cell?_setCell_other _ _ _ _ (hne 4)]
  refine ⟨e1, ?_, hX.keepNew nA hk, hY.keepNew nC hk, ?_⟩
  · show (((w4.setCell ⟨w.heap.size, 4, none⟩ (.int .u64 U)).setCell ⟨w.heap.size, 6, none⟩ (.slice A X.length c)).setCell ⟨w.heap.size, 7, none⟩ (.slice C Y.length d)).heap[gZ]? = _
    rw [Below.heap_setCell _ _ _ _ hz, Below.heap_setCell _ _ _ _ hz, Below.heap_setCell _ _ _ _ hz]
    exact h2
  · exact (((hb.setCell (p := ⟨w.heap.size, 4, none⟩) (Nat.le_refl _) _).setCell (p := ⟨w.heap.size, 6, none⟩) (Nat.le_refl _) _).setCell (p := ⟨w.heap.size, 7, none⟩) (Nat.le_refl _) _).drew
theorem make_end {w w1 w5 w6 : World} {gZ : Nat} {A C : Option Addr} {X Y : List (Int × Int)} (hb6 : RowKit.Below w5.heap.size w5 w6) (hb5 : RowKit.Below w.heap.size w w5) (hX : Bk w5 A X) (hY : Bk w5 C Y) (nA : NewA w1 A) (nC : NewA w1 C) (hz : w.heap.size ≤ gZ) (hlt : gZ < w1.heap.size) (u0 u1 u2 u3 u4 u5 u6 u7 : Value) :
    RowKit.Below w.heap.size w ((((((((w6.setCell ⟨gZ, 0, none⟩ u0).setCell ⟨gZ, 1, none⟩ u1).setCell ⟨gZ, 2, none⟩ u2).setCell ⟨gZ, 3, none⟩ u3).setCell ⟨gZ, 4, none⟩ u4).setCell ⟨gZ, 5, none⟩ u5).setCell ⟨gZ, 6, none⟩ u6).setCell ⟨gZ, 7, none⟩ u7) ∧
      Bk ((((((((w6.setCell ⟨gZ, 0, none⟩ u0).setCell ⟨gZ, 1, none⟩ u1).setCell ⟨gZ, 2, none⟩ u2).setCell ⟨gZ, 3, none⟩ u3).setCell ⟨gZ, 4, none⟩ u4).setCell ⟨gZ, 5, none⟩ u5).setCell ⟨gZ, 6, none⟩ u6).setCell ⟨gZ, 7, none⟩ u7) A X ∧
      Bk ((((((((w6.setCell ⟨gZ, 0, none⟩ u0).setCell ⟨gZ, 1, none⟩ u1).setCell ⟨gZ, 2, none⟩ u2).setCell ⟨gZ, 3, none⟩ u3).setCell ⟨gZ, 4, none⟩ u4).setCell ⟨gZ, 5, none⟩ u5).setCell ⟨gZ, 6, none⟩ u6).setCell ⟨gZ, 7, none⟩ u7) C Y := by
  have hk : ∀ p : Addr, w1.heap.size ≤ p.block → ((((((((w6.setCell ⟨gZ, 0, none⟩ u0).setCell ⟨gZ, 1, none⟩ u1).setCell ⟨gZ, 2, none⟩ u2).setCell ⟨gZ, 3, none⟩ u3).setCell ⟨gZ, 4, none⟩ u4).setCell ⟨gZ, 5, none⟩ u5).setCell ⟨gZ, 6, none⟩ u6).setCell ⟨gZ, 7, none⟩ u7).cell? p = w6.cell? p := fun p hp => by
    have hne : ∀ j, (⟨gZ, j, none⟩ : Addr) ≠ p := fun j e => by subst e; simp at hp; omega
    rw [World.cell?_setCell_other _ _ _ _ (hne 7), World.cell?_setCell_other _ _ _ _ (hne 6), World.cell?_setCell_other _ _ _ _ (hne 5), World.cell?_setCell_other _ _ _ _ (hne 4), World.cell?_setCell_other _ _ _ _ (hne 3), World.cell?_setCell_other _ _ _ _ (hne 2), World.cell?_setCell_other _ _ _ _ (hne 1), World.cell?_setCell_other _ _ _ _ (hne 0)]
  refine ⟨?_, (hX.below hb6).keepNew nA hk, (hY.below hb6).keepNew nC hk⟩
  have hb := hb5.trans (hb6.mono hb5.size)
  repeat (refine RowKit.Below.setCell ?_ hz _)
  exact hb
set_option maxHeartbeats 2000000 in
set_option maxRecDepth 100000 in
theorem make_any (k s z zc ct sm : Int) (A0 B0 A B : Option Addr) (n0 c0 m0 d0 c d : Nat) (P Q : List (Int × Int)) (w : World) (hs : I64 s) (z0 : 0 ≤ zc) (z1 : zc ≤ 18446744073709551615) (hP : Bk w A P) (hQ : Bk w B Q) (hlp : P.length ≤ 1100) (hlq : Q.length ≤ 1100) :
    Calls Tryz.prog 99 #[.agg #[.int .i64 k, .int .i64 s, .int .i64 z, .int .u64 zc, .int .u64 ct, .int .i64 sm, .slice A0 n0 c0, .slice B0 m0 d0], .slice A P.length c, .slice B Q.length d] w (MakePost w k s z zc sm P Q) := by
  obtain ⟨W0, hW0⟩ : ∃ W0, ((w.alloc (.cells #[.int .i64 k, .int .i64 s, .int .i64 z, .int .u64 zc, .int .u64 ct, .int .i64 sm, .slice A0 n0 c0, .slice B0 m0 d0] 39)).alloc (.cells #[.int .i64 0, .int .i64 0, .int .i64 0, .int .u64 0, .int .u64 0, .int .i64 0, .slice none 0 0, .slice none 0 0] 39)).alloc (.cells #[.slice A P.length c, .slice B Q.length d] 99) = W0 := ⟨_, rfl⟩
  obtain ⟨gZ, hZ⟩ : ∃ g, w.heap.size + 1 = g := ⟨_, rfl⟩
  obtain ⟨gS, hS⟩ : ∃ g, gZ + 1 = g := ⟨_, rfl⟩
  have hb0 : Below w.heap.size w W0 := by rw [← hW0]; exact (((Below.refl _ _).alloc (Nat.le_refl _) _).alloc (by simp) _).alloc (by simp; omega) _
  have hsz0 : W0.heap.size = w.heap.size + 3 := by rw [← hW0]; simp
  have bH : W0.heap[w.heap.size]? = some (.cells #[.int .i64 k, .int .i64 s, .int .i64 z, .int .u64 zc, .int .u64 ct, .int .i64 sm, .slice A0 n0 c0, .slice B0 m0 d0] 39 (0, 0)) := by
    rw [← hW0, Below.heap_alloc _ _ _ (by simp; omega), Below.heap_alloc _ _ _ (by simp)]; exact heap_alloc_new w _
  have bZ : W0.heap[gZ]? = some (.cells #[.int .i64 0, .int .i64 0, .int .i64 0, .int .u64 0, .int .u64 0, .int .i64 0, .slice none 0 0, .slice none 0 0] 39 (0, 0)) := by
    rw [← hW0, ← hZ, Below.heap_alloc _ _ _ (by simp)]
    have := heap_alloc_new (w.alloc (.cells #[.int .i64 k, .int .i64 s, .int .i64 z, .int .u64 zc, .int .u64 ct, .int .i64 sm, .slice A0 n0 c0, .slice B0 m0 d0] 39)) (.cells #[.int .i64 0, .int .i64 0, .int .i64 0, .int .u64 0, .int .u64 0, .int .i64 0, .slice none 0 0, .slice none 0 0] 39)
    simpa using this
  have bS : W0.heap[gS]? = some (.cells #[.slice A P.length c, .slice B Q.length d] 99 (0, 0)) := by
    rw [← hW0, ← hS, ← hZ]
    have := heap_alloc_new ((w.alloc (.cells #[.int .i64 k, .int .i64 s, .int .i64 z, .int .u64 zc, .int .u64 ct, .int .i64 sm, .slice A0 n0 c0, .slice B0 m0 d0] 39)).alloc (.cells #[.int .i64 0, .int .i64 0, .int .i64 0, .int .u64 0, .int .u64 0, .int .i64 0, .slice none 0 0, .slice none 0 0] 39)) (.cells #[.slice A P.length c, .slice B Q.length d] 99)
    simpa using this
  have HP := Lib.hid (hP.below hb0)
  have HQ := Lib.hid (hQ.below hb0)
  have HB0 := Lib.hid hb0
  have HBL := Lib.hid (And.intro bH (And.intro bZ bS))
  have HSZ := Lib.hid (And.intro hsz0 (And.intro hZ hS))
  have hWW := Lib.hid hW0
  have hZZ := Lib.hid hZ
  have hSS := Lib.hid hS
  clear hP hQ hb0 bH bZ bS hsz0 hZ hS hW0
  go_enter Tryz.func99, Tryz.ntmps99
  go_wp2_with fail
  rw [hWW.out]
  simp only [hZZ.out, hSS.out]
  refine (total_any _ _ _ _ _ _ _ _ z0 z1 HP.out HQ.out).mono ?_
  rintro e w1 ⟨rfl, hb1⟩
  have HB1 := Lib.hid hb1
  have HBL1 := Lib.hid (show w1.heap[w.heap.size]? = _ ∧ w1.heap[gZ]? = _ ∧ w1.heap[gS]? = _ from by
    obtain ⟨e0, e1, e2⟩ := HSZ.out
    exact ⟨(hb1.block _ (by omega)).trans HBL.out.1, (hb1.block _ (by omega)).trans HBL.out.2.1, (hb1.block _ (by omega)).trans HBL.out.2.2⟩)
  clear hb1
  have hHZ : w.heap.size ≤ gZ := by have := hZZ.out; omega
  by_cases hov : zc + cnt (P ++ Q) ≤ 18446744073709551615
  · obtain ⟨ht1, ht2⟩ := tot_yes hov
    have ht' : (totE zc (P ++ Q) != 0) = false := by rw [ht1]; rfl
    have htot : cnt (P ++ Q) ≤ 18446744073709551615 := by omega
    have HT := Lib.hid (And.intro ht1 ht2)
    have HOV := Lib.hid (And.intro hov htot)
    obtain ⟨U, hU⟩ : ∃ U, totV zc (P ++ Q) = U := ⟨_, rfl⟩
    have HU := Lib.hid (hU.symm.trans ht2)
    rw [hU]
    obtain ⟨y0, y1, y2, y3, y4, y5, y6, y7, fy⟩ := box8 HBL1.out.1
    obtain ⟨x0, x1⟩ := box2 HBL1.out.2.2
    clear ht1 ht2 hov htot fy hU
    go_wp2_with fail
    refine (gather_any _ _ _ _ _ _ _ _ hs (HP.out.below HB1.out) (HQ.out.below HB1.out) hlp hlq HOV.out.2).mono ?_
    rintro e w2 ⟨b, n, rfl, hn, hM⟩
    have HM := Lib.hid hM
    have hbl : b < w2.heap.size := by obtain ⟨⟨D, h1, _⟩, _⟩ := hM; exact h1.lt
    clear hM y0 y1 y2 y3 y4 y5 y6 y7 x0 x1
    go_wp2_with fail
    refine (spread_any b n (gF s P Q) s w2 HM.out.1 hn hbl hs (gF_fine HP.out.2.1 HQ.out.2.1 HOV.out.2)).mono ?_
    rintro e w3 ⟨A', C', c', d', X, Y, rfl, hX, hY, aX, aY, sX, sY, hlen, nA, nC, hb3⟩
    have HB3 := Lib.hid (HM.out.2.2.trans (hb3.mono HM.out.2.2.size))
    have HR := Lib.hid (show Asc X ∧ Asc Y ∧ Side (gF s P Q) s 1 X ∧ Side (gF s P Q) s (-1) Y ∧ SzF X Y c' d' from ⟨aX, aY, sX, sY, hlen⟩)
    have HBK := Lib.hid (And.intro hX hY)
    have HNW := Lib.hid (show NewA w1 A' ∧ NewA w1 C' from ⟨fun a ha => Nat.le_trans HM.out.2.2.size (nA a ha), fun a ha => Nat.le_trans HM.out.2.2.size (nC a ha)⟩)
    have HBL3 := Lib.hid (show w3.heap[w.heap.size]? = _ ∧ w3.heap[gZ]? = _ from by
      obtain ⟨e0, e1, e2⟩ := HSZ.out
      have := HB1.out.size
      exact ⟨(HB3.out.block _ (by omega)).trans HBL1.out.1, (HB3.out.block _ (by omega)).trans HBL1.out.2.1⟩)
    clear hX hY aX aY sX sY hlen nA nC hb3 hbl hn
    go_wp2_with fail
    obtain ⟨gT, hT⟩ : ∃ g, w3.heap.size = g := ⟨_, rfl⟩
    obtain ⟨w4, h4⟩ : ∃ W, w3.alloc (.cells #[.slice A' X.length c', .slice C' Y.length d'] 99) = W := ⟨_, rfl⟩
    have hl3 : gZ < w3.heap.size := by obtain ⟨e0, e1, e2⟩ := HSZ.out; have := HB1.out.size; have := HB3.out.size; omega
    have HBL4 := Lib.hid (show w4.heap[w.heap.size]? = _ ∧ w4.heap[gZ]? = _ ∧ w4.heap[gT]? = some (.cells #[.slice A' X.length c', .slice C' Y.length d'] 99 (0, 0)) from by
      obtain ⟨e0, e1, e2⟩ := HSZ.out
      rw [← h4, ← hT]
      exact ⟨(Below.heap_alloc _ _ _ (by omega)).trans HBL3.out.1, (Below.heap_alloc _ _ _ hl3).trans HBL3.out.2, heap_alloc_new w3 _⟩)
    have HB4 := Lib.hid (show Below w1.heap.size w1 w4 from by rw [← h4]; exact HB3.out.alloc HB3.out.size _)
    have HBK4 := Lib.hid (show Bk w4 A' X ∧ Bk w4 C' Y from by rw [← h4]; exact ⟨HBK.out.1.below ((Below.refl _ _).alloc (Nat.le_refl _) _), HBK.out.2.below ((Below.refl _ _).alloc (Nat.le_refl _) _)⟩)
    rw [h4, hT]
    clear h4 hT hl3 HBK HBL3
    obtain ⟨y0, y1, y2, y3, y4, y5, y6, y7, fy⟩ := box8 HBL4.out.1
    obtain ⟨x0, x1⟩ := box2 HBL4.out.2.2
    have f4 := fy 4
    have f6 := fy 6
    have f7 := fy 7
    clear fy
    go_region_with (fail)
    all_goals
      obtain ⟨w5, h5⟩ : ∃ W, (((w4.setCell ⟨w.heap.size, 4, none⟩ (.int .u64 U)).setCell ⟨w.heap.size, 6, none⟩ (.slice A' X.length c')).setCell ⟨w.heap.size, 7, none⟩ (.slice C' Y.length d')).drew = W := ⟨_, rfl⟩
      rw [h5]
      have HM5 := Lib.hid (make_mid h5 HBL4.out.1 HBL4.out.2.1 (by have := HSZ.out; omega) HBK4.out.1 HBK4.out.2 HNW.out.1 HNW.out.2 (by have := HSZ.out; have := HB1.out.size; omega) (HB0.out.trans ((HB1.out.trans (HB4.out.mono HB1.out.size)).mono HB0.out.size)))
      have hz5 : w1.heap.size ≤ w5.heap.size := by rw [← h5]; simpa [World.drew, World.setCell] using HB4.out.size
      clear h5 y0 y1 y2 y3 y4 y5 y6 y7 x0 x1 f4 f6 f7
      obtain ⟨y0, y1, y2, y3, y4, y5, y6, y7, _⟩ := box8 HM5.out.1
      go_wp2_with fail
      refine (check_any k s z zc U (.int .i64 sm) A' C' c' d' X Y w5 z0 z1 HM5.out.2.2.1 HM5.out.2.2.2.1).mono ?_
      rintro e w6 ⟨rfl, hb6⟩
      have HB6 := Lib.hid hb6
      have HBL6 := Lib.hid (show w6.heap[w.heap.size]? = _ ∧ w6.heap[gZ]? = _ from by
        have := HSZ.out
        have := HB1.out.size
        exact ⟨(hb6.block _ (by omega)).trans HM5.out.1, (hb6.block _ (by omega)).trans HM5.out.2.1⟩)
      clear hb6 y0 y1 y2 y3 y4 y5 y6 y7
      obtain ⟨y0, y1, y2, y3, y4, y5, y6, y7, _⟩ := box8 HBL6.out.1
      obtain ⟨q0, q1, q2, q3, q4, q5, q6, q7, fy⟩ := box8 HBL6.out.2
      have f0 := fy 0
      have f1 := fy 1
      have f2 := fy 2
      have f3 := fy 3
      have f4 := fy 4
      have f5 := fy 5
      have f6 := fy 6
      have f7 := fy 7
      clear fy
      have HD := Lib.hid (show ∀ u0 u1 u2 u3 u4 u5 u6 u7 : Value, _ from make_end (gZ := gZ) HB6.out HM5.out.2.2.2.2 HM5.out.2.2.1 HM5.out.2.2.2.1 HNW.out.1 HNW.out.2 hHZ (by have := HSZ.out; have := HB1.out.size; omega))
      have HNA := Lib.hid (show NewA w A' ∧ NewA w C' from ⟨fun a ha => Nat.le_trans (Nat.le_trans HB0.out.size HB1.out.size) (HNW.out.1 a ha), fun a ha => Nat.le_trans (Nat.le_trans HB0.out.size HB1.out.size) (HNW.out.2 a ha)⟩)
      by_cases hE : checkF k s z zc U X Y = 0
      · have hE' : (checkF k s z zc U X Y != 0) = false := by rw [hE]; rfl
        have HE := Lib.hid hE
        clear hE
        go_wp2_with fail
        refine bodyPost_ret (v := .tuple #[.agg #[.int .i64 k, .int .i64 s, .int .i64 z, .int .u64 zc, .int .u64 U, .int .i64 sm, .slice A' X.length c', .slice C' Y.length d'], .int .i64 0]) (by simp [results, Tryz.results99, go_sem, q0, q1, q2, q3, q4, q5, q6, q7]) rfl ⟨(HD.out _ _ _ _ _ _ _ _).1, .inr ⟨HOV.out.1, A', C', c', d', X, Y, (HD.out _ _ _ _ _ _ _ _).2.1, (HD.out _ _ _ _ _ _ _ _).2.2, HR.out.1, HR.out.2.1, HR.out.2.2.1, HR.out.2.2.2.1, HR.out.2.2.2.2, HNA.out.1, HNA.out.2, .inr ⟨by rw [← HU.out]; exact HE.out, by rw [← HU.out]⟩⟩⟩
      · have hE' : (checkF k s z zc U X Y != 0) = true := by simpa using hE
        have HE := Lib.hid hE
        clear hE
        go_wp2_with fail
        refine bodyPost_ret (v := .tuple #[zeroH, .int .i64 (checkF k s z zc U X Y)]) (by simp [results, Tryz.results99, go_sem, q0, q1, q2, q3, q4, q5, q6, q7, zeroH]) rfl ⟨(HD.out _ _ _ _ _ _ _ _).1, .inr ⟨HOV.out.1, A', C', c', d', X, Y, (HD.out _ _ _ _ _ _ _ _).2.1, (HD.out _ _ _ _ _ _ _ _).2.2, HR.out.1, HR.out.2.1, HR.out.2.2.1, HR.out.2.2.2.1, HR.out.2.2.2.2, HNA.out.1, HNA.out.2, .inl ⟨by rw [← HU.out]; exact HE.out, by rw [← HU.out]⟩⟩⟩
  · have ht := tot_no hov
    have ht' : (totE zc (P ++ Q) != 0) = true := by rw [ht]; rfl
    have HT := Lib.hid ht
    have HOV := Lib.hid hov
    obtain ⟨y0, y1, y2, y3, y4, y5, y6, y7, fy⟩ := box8 HBL1.out.2.1
    have f0 := fy 0
    have f1 := fy 1
    have f2 := fy 2
    have f3 := fy 3
    have f4 := fy 4
    have f5 := fy 5
    have f6 := fy 6
    have f7 := fy 7
    clear ht hov fy
    go_wp2_with fail
    refine bodyPost_ret (v := .tuple #[zeroH, .int .i64 5]) (by simp [results, Tryz.results99, go_sem, y0, y1, y2, y3, y4, y5, y6, y7, HT.out, zeroH]) rfl ⟨?_, .inl ⟨by have := HOV.out; omega, rfl⟩⟩
    (repeat (refine Below.setCell ?_ hHZ _))
    exact HB0.out.trans (HB1.out.mono HB0.out.size)
end Go.Proofs.YtakomfnajeolcaaGreatDoor


/- The contracts of Empty, of Clone, and of the law's own example. -/
/-! A box of eight cells, in every later world. -/
namespace Go.Proofs.YtakomfnajeolcaaGreatDoor
open Go.RowKit Go.Sort Go.Maps
set_option linter.unusedVariables false

theorem box8b {w0 : World} {g : Nat} {t : TypeId} {v0 v1 v2 v3 v4 v5 v6 v7 : Value} (h : w0.heap[g]? = some (.cells #[v0, v1, v2, v3, v4, v5, v6, v7] t (0, 0))) (W : World) (hb : RowKit.Below w0.heap.size w0 W) :
    W.cell? ⟨g, 0, none⟩ = some v0 ∧ W.cell? ⟨g, 1, none⟩ = some v1 ∧ W.cell? ⟨g, 2, none⟩ = some v2 ∧ W.cell? ⟨g, 3, none⟩ = some v3 ∧ W.cell? ⟨g, 4, none⟩ = some v4 ∧ W.cell? ⟨g, 5, none⟩ = some v5 ∧ W.cell? ⟨g, 6, none⟩ = some v6 ∧ W.cell? ⟨g, 7, none⟩ = some v7 := by
  have hg : g < w0.heap.size := (Array.getElem?_eq_some_iff.1 h).1
  obtain ⟨a, b, c, d, e, f, g', i, _⟩ := box8 ((hb.block g hg).trans h)
  exact ⟨a, b, c, d, e, f, g', i⟩
end Go.Proofs.YtakomfnajeolcaaGreatDoor

/-! The contracts of Empty, of Clone, and of the law's own example. -/
namespace Go.Proofs.YtakomfnajeolcaaGreatDoor
open Go.RowKit Go.Sort Go.Maps
set_option linter.unusedVariables false

theorem empty_any (k s : Int) (w : World) :
    Calls Tryz.prog 21 #[.int .i64 k, .int .i64 s] w fun e w' => e = .returned (.agg #[.int .i64 k, .int .i64 s, .int .i64 (-524288), .int .u64 0, .int .u64 0, .int .i64 0, .slice none 0 0, .slice none 0 0]) ∧ Below w.heap.size w w' := by
  go_enter Tryz.func21, Tryz.ntmps21
  go_wp2
  exact bodyPost_ret (v := .agg #[.int .i64 k, .int .i64 s, .int .i64 (-524288), .int .u64 0, .int .u64 0, .int .i64 0, .slice none 0 0, .slice none 0 0]) (by simp [results, Tryz.results21, go_sem]) rfl ⟨rfl, (Below.refl _ _).alloc (Nat.le_refl _) _⟩

theorem cloneB_nil (c : Nat) (w : World) :
    Calls Tryz.prog 79 #[.slice none 0 c] w fun e w' => e = .returned (.slice none 0 0) ∧ w = w' := by
  have hnil := fun (w : World) => Lib.run_eql_slice_nil (P := Tryz.prog) w 37 86 none 0 c 0 0 Tryz.underlying37
  go_enter Tryz.func79, Tryz.ntmps79
  go_wp2_with fail
  go_ret
  exact ⟨rfl, rfl⟩
theorem ownsRowB_new (w : World) : (w.alloc (.cells #[] 86)).ownsRow w.heap.size 86 2 (.slice (some ⟨w.heap.size, 0, none⟩) 0 0) 0 (cellsL []) :=
  ⟨by simp [cellsL], .inr ⟨w.heap.size, 0, #[], rfl, Nat.le_refl _, heap_alloc_new w _, by omega, by unfold maxLen; omega, rfl, by simp [cellsL]⟩⟩
/-- a slice of the call's own, whose cells may be written -/
def OwnB (w w' : World) (A : Option Addr) (c : Nat) (l : List (Int × Int)) : Prop := w'.ownsRow w.heap.size 86 2 (.slice A l.length c) l.length (cellsL l) ∧ Bk w' A l
def CloneP (w : World) (l : List (Int × Int)) (e : Ending) (w' : World) : Prop := ∃ A c, e = .returned (.slice A l.length c) ∧ OwnB w w' A c l ∧ Below w.heap.size w w'
theorem bk_src {w : World} {ad : Addr} {l : List (Int × Int)} (h : Bk w (some ad) l) (j : Nat) (u : Value) (hu : (cellsL l)[j]? = some u) : w.cell? (ad.add j) = some u := by
  have hj : j < l.length * 2 := by rw [← cellsL_length]; exact (List.getElem?_eq_some_iff.1 hu).1
  obtain ⟨b, off, e, hc⟩ := h.some_ (by omega)
  obtain rfl : ad = ⟨b, off, none⟩ := by simpa using e
  obtain ⟨p, hp⟩ := getElem?_lt (l := l) (k := j / 2) (by omega)
  obtain ⟨a1, a2⟩ := cellsL_at l (j / 2) p hp
  obtain ⟨c1, c2⟩ := hc (j / 2) p hp
  rw [Addr.add_lit]
  rcases (show j = j / 2 * 2 ∨ j = j / 2 * 2 + 1 by omega) with e | e
  · have e2 : off + j = off + j / 2 * 2 := by omega
    rw [e2, c1, ← a1, ← e, hu]
  · have e2 : off + j = off + j / 2 * 2 + 1 := by omega
    rw [e2, c2, ← a2, ← e, hu]
set_option maxRecDepth 100000 in
theorem cloneB_some (ad : Addr) (c : Nat) (l : List (Int × Int)) (w : World) (h : Bk w (some ad) l) (hl : l.length ≤ 1000000) :
    Calls Tryz.prog 79 #[.slice (some ad) l.length c] w (CloneP w l) := by
  have hnil := fun (w : World) => Lib.run_eql_slice_nil (P := Tryz.prog) w 37 86 (some ad) l.length c 0 0 Tryz.underlying37
  have HS := Lib.hid h
  clear h
  obtain ⟨i0, hi, hz0, hz1, hz2⟩ := info_parts infoB
  go_enter Tryz.func79, Tryz.ntmps79
  go_wp2_with (at_builtin; refine wpList_append_own _ rfl _ _ 37 rfl w.heap.size 86 i0 (.agg #[.int .i64 0, .int .u64 0]) 2 16 Tryz.underlying37 hi hz0 hz1 hz2 rfl (by decide) (.slice (some ⟨w.heap.size, 0, none⟩) 0 0) 0 (cellsL []) rfl ?c0 ad l.length c (cellsL l) rfl ?c1 ?c2 ?c3 ?c4 ?c5 ?c6 ?_)
  case c0 => exact ownsRowB_new w
  case c1 => exact cellsL_length l
  case c2 => exact bk_src (HS.out.below ((Below.refl _ _).alloc (Nat.le_refl _) _))
  case c3 => exact cellsL_one l
  case c4 => unfold maxLen; omega
  case c5 => omega
  case c6 => simp
  intro v' w1 hown hgrow hnn
  have hown1 : w1.ownsRow w.heap.size 86 2 v' l.length (cellsL l) := by simpa [cellsL] using hown
  have hb : Below w.heap.size w w1 := ((Below.refl _ _).alloc (Nat.le_refl _) _).grown hgrow (by simp) (fun k hk => by simp [Value.ownBlock] at hk; omega)
  have hshape : ∃ A c', v' = .slice A l.length c' := by
    rcases hown1.2 with ⟨rfl, h0⟩ | ⟨g, cap, _, rfl, _⟩
    · exact ⟨none, 0, by rw [h0]⟩
    · exact ⟨_, cap, rfl⟩
  obtain ⟨A, c', rfl⟩ := hshape
  have HP := Lib.hid (And.intro hown1 hb)
  clear hown hgrow hb hnil hown1 hnn
  go_wp2_with fail
  go_ret
  exact ⟨A, c', rfl, ⟨HP.out.1, own_bk HP.out.1 HS.out.2.1 hl⟩, HP.out.2⟩
theorem cloneB_any (A : Option Addr) (c : Nat) (l : List (Int × Int)) (w : World) (h : Bk w A l) (hl : l.length ≤ 1000000) :
    Calls Tryz.prog 79 #[.slice A l.length c] w (CloneP w l) := by
  cases A with
  | none =>
    have hb : l = [] := by
      by_cases h0 : l.length = 0
      · exact List.eq_nil_of_length_eq_zero h0
      · obtain ⟨b, off, e, _⟩ := h.some_ (by omega)
        cases e
    subst hb
    refine (cloneB_nil c w).mono fun e w' ⟨he, hw⟩ => ?_
    subst hw
    exact ⟨none, 0, he, ⟨World.ownsRow_nil _ _ _ _, h⟩, Below.refl _ _⟩
  | some ad => exact cloneB_some ad c l w h hl
end Go.Proofs.YtakomfnajeolcaaGreatDoor
