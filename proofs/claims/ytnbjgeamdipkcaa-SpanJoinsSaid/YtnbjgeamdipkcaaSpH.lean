/- The contracts of Join and Has. -/
import Derived.Test.YtnbjgeamdipkcaaSpJ
namespace Go.Proofs.Ytnbjgeamdipkcaa
open Go.RowKit Go.Sort
set_option linter.unusedVariables false

/-- what Join leaves -/
def JoinPost (w : World) (U : List Int) (e : Ending) (w' : World) : Prop := ∃ A c, e = .returned (.agg #[.int .i64 (fstL U), .slice A (runsL U).length c]) ∧ Ly w' A U ∧ New w A ∧ Below w.heap.size w w'
/-- behind the append -/
def JcRel (W0 : World) (xs ys : List Int) (s5 : Value) (wx : World) : Prop := ∃ (A : Option Addr) (n c : Nat) (X : List Int), s5 = .slice A n c ∧ n = X.length ∧ wx.ownsRow W0.heap.size 3 1 (.slice A n c) n (intsC .i64 X) ∧ (X = xs ++ ys) ∧ Below W0.heap.size W0 wx
set_option maxHeartbeats 1000000 in
set_option maxRecDepth 100000 in
theorem join_any (A B : Option Addr) (c d : Nat) (xs ys : List Int) (w : World) (hA : Ly w A xs) (hB : Ly w B ys) (ax : Asc xs) (ay : Asc ys) (ix : Inb xs) (iy : Inb ys) (lx : xs.length ≤ 4000) (ly : ys.length ≤ 4000) :
    Calls Try.prog 9 #[.agg #[.int .i64 (fstL xs), .slice A (runsL xs).length c], .agg #[.int .i64 (fstL ys), .slice B (runsL ys).length d]] w (JoinPost w (uni xs ys)) := by
  have HU := Lib.hid (uni_uni xs ys)
  have HUI := Lib.hid ((uni_uni xs ys).inb ix iy)
  obtain ⟨W0, hW0⟩ : ∃ W, ((w.alloc (.cells #[.int .i64 (fstL xs), .slice A (runsL xs).length c] 33)).alloc (.cells #[.int .i64 (fstL ys), .slice B (runsL ys).length d] 33)).alloc (.cells #[.int .i64 0, .slice none 0 0] 33) = W := ⟨_, rfl⟩
  have hb0 : Below w.heap.size w W0 := by rw [← hW0]; exact (((Below.refl _ _).alloc (Nat.le_refl _) _).alloc (by simp) _).alloc (by simp; omega) _
  have hsz : W0.heap.size = w.heap.size + 3 := by rw [← hW0]; simp
  have bx : W0.heap[w.heap.size]? = some (.cells #[.int .i64 (fstL xs), .slice A (runsL xs).length c] 33 (0, 0)) := by
    rw [← hW0, Below.heap_alloc _ _ _ (by simp; omega), Below.heap_alloc _ _ _ (by simp)]; exact heap_alloc_new w _
  obtain ⟨gY, hgY⟩ : ∃ g, w.heap.size + 1 = g := ⟨_, rfl⟩
  obtain ⟨gR, hgR⟩ : ∃ g, gY + 1 = g := ⟨_, rfl⟩
  have by_ : W0.heap[gY]? = some (.cells #[.int .i64 (fstL ys), .slice B (runsL ys).length d] 33 (0, 0)) := by
    rw [← hW0, ← hgY, Below.heap_alloc _ _ _ (by simp)]
    have := heap_alloc_new (w.alloc (.cells #[.int .i64 (fstL xs), .slice A (runsL xs).length c] 33)) (.cells #[.int .i64 (fstL ys), .slice B (runsL ys).length d] 33)
    simpa using this
  have br : W0.heap[gR]? = some (.cells #[.int .i64 0, .slice none 0 0] 33 (0, 0)) := by
    rw [← hW0, ← hgR, ← hgY]
    have := heap_alloc_new ((w.alloc (.cells #[.int .i64 (fstL xs), .slice A (runsL xs).length c] 33)).alloc (.cells #[.int .i64 (fstL ys), .slice B (runsL ys).length d] 33)) (.cells #[.int .i64 0, .slice none 0 0] 33)
    simpa using this
  have HCA := Lib.hid (fun (W : World) (hW : Below W0.heap.size W0 W) => indices_any A c xs W ((hA.below hb0).below hW) ax ix (by omega))
  have HCB := Lib.hid (fun (W : World) (hW : Below W0.heap.size W0 W) => indices_any B d ys W ((hB.below hb0).below hW) ay iy (by omega))
  have HBX := Lib.hid (box2b bx)
  have HBY := Lib.hid (box2b by_)
  have HBR := Lib.hid (fun (W : World) (hW : Below W0.heap.size W0 W) => (hW.block gR (by omega)).trans br)
  have HB0 := Lib.hid hb0
  have HSZ := Lib.hid (And.intro hsz (And.intro hgY hgR))
  have hWW := Lib.hid hW0
  have hYY := Lib.hid hgY
  have hRR := Lib.hid hgR
  clear hW0 hb0 hsz bx by_ br hgY hgR hA hB ax ay ix iy
  obtain ⟨fx, hfx⟩ : ∃ f, fstL xs = f := ⟨_, rfl⟩
  obtain ⟨fy, hfy⟩ : ∃ f, fstL ys = f := ⟨_, rfl⟩
  obtain ⟨nx, hnx⟩ : ∃ f, (runsL xs).length = f := ⟨_, rfl⟩
  obtain ⟨ny, hny⟩ : ∃ f, (runsL ys).length = f := ⟨_, rfl⟩
  rw [hfx, hnx] at HCA HBX
  rw [hfy, hny] at HCB HBY
  rw [hfx, hfy, hnx, hny] at hWW ⊢
  clear hfx hfy hnx hny
  go_enter Try.func9, Try.ntmps9
  go_wp2_with fail
  rw [hWW.out]
  simp only [hYY.out, hRR.out]
  go_cut [5] from 6 (fun s5 wx => JcRel W0 xs ys s5 wx)
  case first =>
    have g0 : Below W0.heap.size W0 W0.drew := (Below.refl _ _).drew
    obtain ⟨x0, x1⟩ := HBX.out W0 (Below.refl _ _)
    obtain ⟨y0, y1⟩ := HBY.out W0 (Below.refl _ _)
    go_region_law (first
      | (refine step_app_ints rfl (.tmp 7) (.tmp 9) rfl W0.heap.size _ _ _ xs rfl (by assumption) W0.heap.size _ _ _ ys rfl (by assumption) (by omega) (Below.size (by assumption : Below W0.heap.size W0 _)) ?_; intro A3 c3 w3 ho3 hg3; have HOO := Lib.hid ho3; have HB3 := Lib.hid (below_own (by assumption : Below W0.heap.size W0 _) (Below.size (by assumption : Below W0.heap.size W0 _)) (by assumption : World.ownsRow _ _ _ _ (.slice _ xs.length _) _ (intsC .i64 xs)) (Nat.le_refl _) hg3); clear ho3 hg3)
      | (go_simp; go_at_call 10; first
        | ((with_reducible refine (HCA.out _ (by first | assumption | exact (Below.refl _ _).drew)).mono ?_); rintro e w1 ⟨A1, c1, rfl, hO1, hb1⟩; have p1 : Below W0.heap.size W0 w1 := Below.trans (by first | assumption | exact (Below.refl _ _).drew) (hb1.mono (Below.size (by first | assumption | exact (Below.refl _ _).drew : Below W0.heap.size W0 _))); have o1 := own_base hO1 (Below.size (by first | assumption | exact (Below.refl _ _).drew : Below W0.heap.size W0 _)); obtain ⟨y2, y3⟩ := HBY.out w1 p1; (first | (have o3 := own_below (by assumption : World.ownsRow _ _ _ _ (.slice _ ys.length _) _ (intsC .i64 ys)) hb1) | skip); clear hO1 hb1)
        | ((with_reducible refine (HCB.out _ (by first | assumption | exact (Below.refl _ _).drew)).mono ?_); rintro e w2 ⟨A2, c2, rfl, hO2, hb2⟩; have p2 : Below W0.heap.size W0 w2 := Below.trans (by first | assumption | exact (Below.refl _ _).drew) (hb2.mono (Below.size (by first | assumption | exact (Below.refl _ _).drew : Below W0.heap.size W0 _))); have o2 := own_base hO2 (Below.size (by first | assumption | exact (Below.refl _ _).drew : Below W0.heap.size W0 _)); obtain ⟨x2, x3⟩ := HBX.out w2 p2; (first | (have o4 := own_below (by assumption : World.ownsRow _ _ _ _ (.slice _ xs.length _) _ (intsC .i64 xs)) hb2) | skip); clear hO2 hb2)
        | fail))
    all_goals (go_wp2_with fail)
    all_goals go_meet
    all_goals exact ⟨_, _, _, xs ++ ys, rfl, by simp, HOO.out, rfl, HB3.out⟩
  case rest =>
    obtain ⟨A1, n1, c1, X, rfl, hn, ho, hX, hb⟩ := hcut
    have HO := Lib.hid ho
    have HB := Lib.hid hb
    have HN := Lib.hid hn
    have HX := Lib.hid hX
    have hlx : X.length ≤ 1000000 := by rw [hX]; simp; omega
    clear ho hb hn hX
    go_wp2_with fail
    refine (sort_any _ _ _ _ _ _ HO.out HN.out hlx).mono ?_
    rintro e w1 ⟨rfl, ho1, hg1⟩
    obtain ⟨Z, hZ⟩ : ∃ Z, X.mergeSort (fun x y => decide (x ≤ y)) = Z := ⟨_, rfl⟩
    rw [hZ] at ho1
    have HZ := Lib.hid (show Lib.compact Z = uni xs ys by rw [← hZ, HX.out]; rfl)
    have HN2 := Lib.hid (show n1 = Z.length by rw [← hZ, List.length_mergeSort]; exact HN.out)
    have HN3 := Lib.hid (show Z.length ≤ 1000000 by rw [← hZ, List.length_mergeSort]; exact hlx)
    rw [HN.out.symm] at ho1
    have HO1 := Lib.hid ho1
    have HB1 := Lib.hid (below_own HB.out HB.out.size HO.out (Nat.le_refl _) hg1)
    clear ho1 hg1 hZ
    go_wp2_with fail
    refine (compact_any _ _ _ _ _ _ HO1.out HN2.out HN3.out).mono ?_
    rintro e w2 ⟨A2, c2, rfl, hcl, hbw⟩
    rw [HZ.out] at hcl ⊢
    have HCL := Lib.hid hcl
    have HB2 := Lib.hid (hbw W0 HB1.out HB1.out.size)
    clear hcl hbw
    have hlu : (uni xs ys).length ≤ 10000 := by have := HU.out.2.2; omega
    go_wp2_with fail
    refine (runs_any A2 c2 (uni xs ys) w2 HCL.out HU.out.1 HUI.out hlu).mono ?_
    rintro e w3 ⟨A3, c3, rfl, hly, hnw, hb3⟩
    have HB3 := Lib.hid (HB2.out.trans (hb3.mono HB2.out.size))
    obtain ⟨z0, z1, zf⟩ := box2 (HBR.out w3 HB3.out)
    have zf0 := zf 0
    have zf1 := zf 1
    have HEND := Lib.hid (show JoinPost w (uni xs ys) (.returned (.agg #[.int .i64 (fstL (uni xs ys)), .slice A3 (runsL (uni xs ys)).length c3])) ((w3.setCell ⟨gR, 0, none⟩ (.int .i64 (fstL (uni xs ys)))).setCell ⟨gR, 1, none⟩ (.slice A3 (runsL (uni xs ys)).length c3)) from by
      obtain ⟨e1, e2, e3⟩ := HSZ.out
      refine ⟨A3, c3, rfl, ?_, ?_, ?_⟩
      · exact (Cl.set (Cl.set hly (p := ⟨gR, 0, none⟩) (fun a ha => by have := hnw a ha; have := HB2.out.size; simp; omega) _) (p := ⟨gR, 1, none⟩) (fun a ha => by have := hnw a ha; have := HB2.out.size; simp; omega) _)
      · exact hnw.mono (Nat.le_trans HB0.out.size HB2.out.size)
      · exact ((HB0.out.trans (HB3.out.mono HB0.out.size)).setCell (by simp; omega) _).setCell (by simp; omega) _)
    clear zf hly hb3 hnw
    go_wp2_with fail
    exact bodyPost_ret (v := .agg #[.int .i64 (fstL (uni xs ys)), .slice A3 (runsL (uni xs ys)).length c3]) (by simp [results, Try.results9, go_sem, z0, z1]) rfl HEND.out
/-- has the one all that the other one has -/
def hasB (xs ys : List Int) : Bool := sameB (uni xs ys) xs
theorem uni_len (xs ys : List Int) : (uni xs ys).length ≤ xs.length + ys.length := (uni_uni xs ys).2.2
set_option maxHeartbeats 1000000 in
set_option maxRecDepth 100000 in
theorem has_any (A B : Option Addr) (c d : Nat) (xs ys : List Int) (w : World) (hA : Ly w A xs) (hB : Ly w B ys) (ax : Asc xs) (ay : Asc ys) (ix : Inb xs) (iy : Inb ys) (lx : xs.length ≤ 4000) (ly : ys.length ≤ 4000) :
    Calls Try.prog 11 #[.agg #[.int .i64 (fstL xs), .slice A (runsL xs).length c], .agg #[.int .i64 (fstL ys), .slice B (runsL ys).length d]] w fun e w' => e = .returned (.bool (hasB xs ys)) ∧ Below w.heap.size w w' := by
  have HU := Lib.hid (uni_uni xs ys)
  have HX := Lib.hid (And.intro ax (And.intro ay (And.intro ix iy)))
  obtain ⟨W0, hW0⟩ : ∃ W, (w.alloc (.cells #[.int .i64 (fstL xs), .slice A (runsL xs).length c] 33)).alloc (.cells #[.int .i64 (fstL ys), .slice B (runsL ys).length d] 33) = W := ⟨_, rfl⟩
  have hb0 : Below w.heap.size w W0 := by rw [← hW0]; exact ((Below.refl _ _).alloc (Nat.le_refl _) _).alloc (by simp) _
  have bx : W0.heap[w.heap.size]? = some (.cells #[.int .i64 (fstL xs), .slice A (runsL xs).length c] 33 (0, 0)) := by
    rw [← hW0, Below.heap_alloc _ _ _ (by simp)]; exact heap_alloc_new w _
  obtain ⟨gY, hgY⟩ : ∃ g, w.heap.size + 1 = g := ⟨_, rfl⟩
  have by_ : W0.heap[gY]? = some (.cells #[.int .i64 (fstL ys), .slice B (runsL ys).length d] 33 (0, 0)) := by
    rw [← hW0, ← hgY]
    have := heap_alloc_new (w.alloc (.cells #[.int .i64 (fstL xs), .slice A (runsL xs).length c] 33)) (.cells #[.int .i64 (fstL ys), .slice B (runsL ys).length d] 33)
    simpa using this
  have HA := Lib.hid (hA.below hb0)
  have HBB := Lib.hid (hB.below hb0)
  have HB0 := Lib.hid hb0
  have HBX := Lib.hid (box2b bx)
  have HBY := Lib.hid (box2b by_)
  have hWW := Lib.hid hW0
  have hYY := Lib.hid hgY
  clear hW0 hb0 bx hA hB ax ay ix iy by_ hgY
  go_enter Try.func11, Try.ntmps11
  go_wp2_with fail
  rw [hWW.out]
  simp only [hYY.out]
  have HCJ := Lib.hid (fun (W : World) (hW : Below W0.heap.size W0 W) => join_any A B c d xs ys W (HA.out.below hW) (HBB.out.below hW) HX.out.1 HX.out.2.1 HX.out.2.2.1 HX.out.2.2.2 lx ly)
  have HCS := Lib.hid (fun (W : World) (A1 : Option Addr) (c1 : Nat) (hW : Below W0.heap.size W0 W) (hl : Ly W A1 (uni xs ys)) => same_any A1 A c1 c (uni xs ys) xs W hl (HA.out.below hW) (by have := runsL_le (uni xs ys); have := HU.out.2.2; omega) (by have := runsL_le xs; omega))
  have g0 : Below W0.heap.size W0 W0.drew := (Below.refl _ _).drew
  obtain ⟨x0, x1⟩ := HBX.out W0 (Below.refl _ _)
  obtain ⟨y0, y1⟩ := HBY.out W0 (Below.refl _ _)
  go_region_with (first
    | (go_at_call 9; ((with_reducible refine (HCJ.out _ (by first | assumption | exact (Below.refl _ _).drew)).mono ?_); rintro e w1 ⟨A1, c1, rfl, hl1, hn1, hb1⟩; have p1 : Below W0.heap.size W0 w1 := Below.trans (by first | assumption | exact (Below.refl _ _).drew) (hb1.mono (Below.size (by first | assumption | exact (Below.refl _ _).drew : Below W0.heap.size W0 _))); obtain ⟨x2, x3⟩ := HBX.out w1 p1; obtain ⟨y2, y3⟩ := HBY.out w1 p1; clear hn1 hb1))
    | (go_at_call 12; ((with_reducible refine (HCS.out _ _ _ (by first | assumption | exact Below.drew (by assumption)) (by assumption)).mono ?_); rintro e w2 ⟨rfl, hb2⟩; have HB2 := Lib.hid (Below.trans (by assumption : Below W0.heap.size W0 _) (hb2.mono (Below.size (by assumption : Below W0.heap.size W0 _)))); clear hb2))
    | fail)
  all_goals
    go_wp2_with fail
    go_ret
    exact ⟨rfl, HB0.out.trans (HB2.out.mono HB0.out.size)⟩
end Go.Proofs.Ytnbjgeamdipkcaa
