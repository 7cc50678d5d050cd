/- The law SpanHolds' walk. -/
import Derived.Test.YtnbjgeamdipkcaaSpCm
import Derived.Test.YtnbjgeamdipkcaaSpQ
import Derived.Deep.RegionHeld3
namespace Go.Proofs.Ytnbjgeamdipkcaa
open Go.RowKit Go.Sort
set_option linter.unusedVariables false

/-- layouts' calls, by numbers with names -/
theorem has_at (A B : Option Addr) (c d n m : Nat) (F G : Int) (xs ys : List Int) (v : Bool) (w : World) (hF : F = fstL xs) (hG : G = fstL ys) (hn : n = (runsL xs).length) (hm : m = (runsL ys).length) (hv : hasB xs ys = v) (hA : Ly w A xs) (hB : Ly w B ys) (ax : Asc xs) (ay : Asc ys) (ix : Inb xs) (iy : Inb ys) (lx : xs.length ≤ 4000) (ly : ys.length ≤ 4000) :
    Calls Try.prog 11 #[.agg #[.int .i64 F, .slice A n c], .agg #[.int .i64 G, .slice B m d]] w fun e w' => e = .returned (.bool v) ∧ Below w.heap.size w w' := by
  subst hF hG hn hm hv
  exact has_any A B c d xs ys w hA hB ax ay ix iy lx ly
theorem same_at (A B : Option Addr) (c d n m : Nat) (F G : Int) (xs ys : List Int) (v : Bool) (w : World) (hF : F = fstL xs) (hG : G = fstL ys) (hn : n = (runsL xs).length) (hm : m = (runsL ys).length) (hv : sameB xs ys = v) (hA : Ly w A xs) (hB : Ly w B ys) (lx : xs.length ≤ 10000) (ly : ys.length ≤ 10000) :
    Calls Try.prog 12 #[.agg #[.int .i64 F, .slice A n c], .agg #[.int .i64 G, .slice B m d]] w fun e w' => e = .returned (.bool v) ∧ Below w.heap.size w w' := by
  subst hF hG hn hm hv
  exact same_any A B c d xs ys w hA hB (by have := runsL_le xs; omega) (by have := runsL_le ys; omega)
theorem join_at (A B : Option Addr) (c d n m : Nat) (F G : Int) (xs ys U : List Int) (w : World) (hF : F = fstL xs) (hG : G = fstL ys) (hn : n = (runsL xs).length) (hm : m = (runsL ys).length) (hU : uni xs ys = U) (hA : Ly w A xs) (hB : Ly w B ys) (ax : Asc xs) (ay : Asc ys) (ix : Inb xs) (iy : Inb ys) (lx : xs.length ≤ 4000) (ly : ys.length ≤ 4000) :
    Calls Try.prog 9 #[.agg #[.int .i64 F, .slice A n c], .agg #[.int .i64 G, .slice B m d]] w (JoinPost w U) := by
  subst hF hG hn hm hU
  exact join_any A B c d xs ys w hA hB ax ay ix iy lx ly
theorem counts_at (A B : Option Addr) (c m d n k : Nat) (f : Int) (ids : List Int) (l : List (Int × Int)) (w : World) (hn : n = ids.length) (hf : f = fstL ids) (hm : m = (runsL ids).length) (hk : k = l.length) (hS : Ly w A ids) (ha : Asc ids) (hi : Inb ids) (hl : ids.length ≤ 10000) (hB : Cl w B (twoC .u64 l)) (hld : k ≤ d) (hd : d ≤ 9223372036854775807) :
    Calls Try.prog 13 #[.agg #[.int .i64 f, .slice A m c], .slice B k d] w (CtPost w ids n l) := by
  subst hk
  exact counts_any A B c m d n f ids l w hn hf hm hS ha hi hl hB hld hd
theorem right_at (f m : Int) (A : Option Addr) (c n : Nat) (l : List Int) (w : World) (hf : f = fstL l) (hn : n = (runsL l).length) (hS : Ly w A l) (ha : Asc l) (hi : Inb l) (hl : l.length ≤ 10000) (hm : (l.length : Int) ≤ m) (hm2 : m ≤ 100000) :
    Calls Try.prog 15 #[.agg #[.int .i64 f, .slice A n c], .int .i64 m] w fun e w' => e = .returned (.bool true) ∧ Below w.heap.size w w' := by
  subst hf hn
  have := right_any (fstL l) m A c (runsL l) w hS (runs_sb ha hi (by omega)).1 ⟨by omega, by omega⟩ (by have := runsL_le l; omega)
  rw [runs_right ha hi hm] at this
  exact this
def HoRel (n : Nat) (w9 : World) (i : Value) (wr : World) : Prop := ∃ (k : Nat), k ≤ n ∧ i = .int .i64 k ∧ ∃ q, wr = w9.drewN q
def HcRel (w8 : World) (s : Value) (wx : World) : Prop := s = .bool false ∧ Below w8.heap.size w8 wx

set_option maxHeartbeats 8000000 in
set_option maxRecDepth 100000 in
theorem holds_main (A B C : Option Addr) (ca cb cc : Nat) (a b cs : List Int) (f t : Int) (w : World) (hA : Cl w A (intsC .u8 a)) (hB : Cl w B (intsC .u8 b)) (hC : Cl w C (intsC .u64 cs)) (ba : ∀ x ∈ a, 0 ≤ x ∧ x ≤ 255) (bb : ∀ x ∈ b, 0 ≤ x ∧ x ≤ 255) (la : a.length ≤ 200) (lb : b.length ≤ 200) (hcl : cs.length ≤ 9223372036854775807) (f0 : -32768 ≤ f) (f1 : f ≤ 32767) (t0 : -32768 ≤ t) (t1 : t ≤ 32767) :
    Calls Try.prog 4 #[.slice A a.length ca, .slice B b.length cb, .int .i16 f, .int .i16 t, .slice C cs.length cc] w fun e w' => e = .returned (.bool true) ∧ Below w.heap.size w w' := by
  have HX := Lib.hid (rising_any A C ca cc f a cs w hA hC ba la hcl f0 f1)
  have HY := Lib.hid (fun W (hW : Below w.heap.size w W) => rising_any B none cb 0 t b [] W (hB.below hW) (Cl.nil _ _) bb lb (by simp) t0 t1)
  obtain ⟨ax, ix⟩ := risB_fine (f := f) (l := a) (cs := cs) (fun x hx => (ba x hx).1) la (by omega) (by omega)
  obtain ⟨ay, iy⟩ := risB_fine (f := t) (l := b) (cs := []) (fun x hx => (bb x hx).1) lb (by omega) (by omega)
  have lX := risB_length f a cs
  have lY := risB_length t b []
  obtain ⟨X, hX⟩ : ∃ X, risB f a cs = X := ⟨_, rfl⟩
  obtain ⟨Y, hY⟩ : ∃ Y, risB t b [] = Y := ⟨_, rfl⟩
  rw [hX] at HX ax ix lX
  rw [hY] at HY ay iy lY
  obtain ⟨xs, hxs⟩ : ∃ xs, idsL X = xs := ⟨_, rfl⟩
  obtain ⟨ys, hys⟩ : ∃ ys, idsL Y = ys := ⟨_, rfl⟩
  have lxs : xs.length = a.length := by rw [← hxs, ← lX]; simp [idsL]
  have lys : ys.length = b.length := by rw [← hys, ← lY]; simp [idsL]
  have HCS := Lib.hid (cntF_self ax)
  rw [hxs] at ax ix HCS
  rw [hys] at ay iy
  have HLX := Lib.hid (And.intro lX (And.intro lY (And.intro lxs lys)))
  have HAS := Lib.hid (And.intro ax (And.intro ay (And.intro ix iy)))
  have HID := Lib.hid (And.intro hxs hys)
  have hU := uni_uni xs ys
  have hsx := uni_self ax
  have hsw := uni_swap xs ys
  obtain ⟨U, hUU⟩ : ∃ U, uni xs ys = U := ⟨_, rfl⟩
  have HUU := Lib.hid (And.intro hUU (And.intro hsx (hsw.trans hUU)))
  rw [hUU] at hU
  have HU := Lib.hid hU
  have HUI := Lib.hid (hU.inb ix iy)
  clear hX hY hxs hys lxs lys ax ay ix iy hA hB hC ba bb hU hsx hsw hUU lX lY
  go_enter Try.func4, Try.ntmps4
  go_wp2_with fail
  refine HX.out.mono ?_
  rintro e w1 ⟨A1, c1, B1, d1, rfl, hca, hcb, hx1, _, hb1⟩
  rw [HLX.out.1]
  have HX1 := Lib.hid (And.intro hx1 (And.intro hca hcb))
  have HB1 := Lib.hid hb1
  clear hx1 hb1 hca hcb
  go_wp2_with fail
  refine (HY.out w1 HB1.out).mono ?_
  rintro e w2 ⟨A2, c2, B2, d2, rfl, _, _, hy2, _, hb2⟩
  rw [HLX.out.2.1]
  have HY2 := Lib.hid hy2
  have HX2 := Lib.hid (HX1.out.1.below hb2)
  have HB2 := Lib.hid (HB1.out.trans (hb2.mono HB1.out.size))
  clear hy2 hb2
  go_wp2_with fail
  refine (of_at A1 a.length c1 X xs w2 HLX.out.1.symm HID.out.1 HX2.out HAS.out.1 HAS.out.2.2.1 (by rw [HLX.out.1]; omega)).mono ?_
  rintro e w3 ⟨A3, c3, rfl, hp3, _, hb3⟩
  have HP3 := Lib.hid hp3
  have HX3 := Lib.hid (HX2.out.below hb3)
  have HY3 := Lib.hid (HY2.out.below hb3)
  have HB3 := Lib.hid (HB2.out.trans (hb3.mono HB2.out.size))
  clear hp3 hb3
  go_wp2_with fail
  refine (of_at A2 b.length c2 Y ys w3 HLX.out.2.1.symm HID.out.2 HY3.out HAS.out.2.1 HAS.out.2.2.2 (by rw [HLX.out.2.1]; omega)).mono ?_
  rintro e w4 ⟨A4, c4, rfl, hq4, _, hb4⟩
  obtain ⟨F1, hF1⟩ : ∃ F, fstL xs = F := ⟨_, rfl⟩
  obtain ⟨N1, hN1⟩ : ∃ M, (runsL xs).length = M := ⟨_, rfl⟩
  obtain ⟨F2, hF2⟩ : ∃ F, fstL ys = F := ⟨_, rfl⟩
  obtain ⟨N2, hN2⟩ : ∃ M, (runsL ys).length = M := ⟨_, rfl⟩
  rw [hF1, hN1, hF2, hN2]
  have HFN := Lib.hid (And.intro hF1.symm (And.intro hN1.symm (And.intro hF2.symm hN2.symm)))
  have HB4 := Lib.hid (HB3.out.trans (hb4.mono HB3.out.size))
  obtain ⟨w5, hw5⟩ : ∃ W, (w4.alloc (.cells #[.int .i64 F1, .slice A3 N1 c3] 33)).alloc (.cells #[.int .i64 F2, .slice A4 N2 c4] 33) = W := ⟨_, rfl⟩
  obtain ⟨gP, hgP⟩ : ∃ g, w4.heap.size = g := ⟨_, rfl⟩
  obtain ⟨gQ, hgQ⟩ : ∃ g, gP + 1 = g := ⟨_, rfl⟩
  have hb45 : Below w4.heap.size w4 w5 := by rw [← hw5]; exact ((Below.refl _ _).alloc (Nat.le_refl _) _).alloc (by simp) _
  have HP5 := Lib.hid (show Ly w5 A3 xs from (HP3.out.below hb4).below hb45)
  have HQ5 := Lib.hid (show Ly w5 A4 ys from hq4.below hb45)
  have HX5 := Lib.hid (show Cl w5 A1 (twoC .u64 X) from (HX3.out.below hb4).below hb45)
  have HB5 := Lib.hid (show Below w.heap.size w w5 from HB4.out.trans (hb45.mono HB4.out.size))
  have bP : w5.heap[gP]? = some (.cells #[.int .i64 F1, .slice A3 N1 c3] 33 (0, 0)) := by rw [← hw5, ← hgP]; exact alloc_21 _ _ _
  have bQ : w5.heap[gQ]? = some (.cells #[.int .i64 F2, .slice A4 N2 c4] 33 (0, 0)) := by rw [← hw5, ← hgQ, ← hgP]; exact alloc_22 _ _ _
  have HBP := Lib.hid (box2b bP)
  have HBQ := Lib.hid (box2b bQ)
  have hWW := Lib.hid hw5
  have hGP := Lib.hid hgP
  have hGQ := Lib.hid hgQ
  clear hq4 hb4 hw5 hgP hgQ hb45 bP bQ hF1 hN1 hF2 hN2
  go_wp2_with fail
  rw [hWW.out]
  simp only [hGP.out, hGQ.out]
  refine (join_at A3 A4 c3 c4 N1 N2 F1 F2 xs ys U w5 HFN.out.1 HFN.out.2.2.1 HFN.out.2.1 HFN.out.2.2.2 HUU.out.1 HP5.out HQ5.out HAS.out.1 HAS.out.2.1 HAS.out.2.2.1 HAS.out.2.2.2 (by have := HLX.out.2.2.1; omega) (by have := HLX.out.2.2.2; omega)).mono ?_
  rintro e w6 ⟨A6, c6, rfl, hj6, _, hb6⟩
  obtain ⟨F3, hF3⟩ : ∃ F, fstL U = F := ⟨_, rfl⟩
  obtain ⟨N3, hN3⟩ : ∃ M, (runsL U).length = M := ⟨_, rfl⟩
  rw [hF3, hN3]
  have HFU := Lib.hid (And.intro hF3.symm hN3.symm)
  obtain ⟨w8, hw8⟩ : ∃ W, w6.alloc (.cells #[.int .i64 F3, .slice A6 N3 c6] 33) = W := ⟨_, rfl⟩
  obtain ⟨gJ, hgJ⟩ : ∃ g, w6.heap.size = g := ⟨_, rfl⟩
  have hb68 : Below w6.heap.size w6 w8 := by rw [← hw8]; exact (Below.refl _ _).alloc (Nat.le_refl _) _
  have hb58 : Below w5.heap.size w5 w8 := hb6.trans (hb68.mono hb6.size)
  have HP8 := Lib.hid (HP5.out.below hb58)
  have HQ8 := Lib.hid (HQ5.out.below hb58)
  have HX8 := Lib.hid (HX5.out.below hb58)
  have HJ8 := Lib.hid (hj6.below hb68)
  have HB8 := Lib.hid (HB5.out.trans (hb58.mono HB5.out.size))
  have HBP8 := Lib.hid (fun W (hW : Below w8.heap.size w8 W) => HBP.out W (hb58.trans (hW.mono hb58.size)))
  have HBQ8 := Lib.hid (fun W (hW : Below w8.heap.size w8 W) => HBQ.out W (hb58.trans (hW.mono hb58.size)))
  have HBJ8 := Lib.hid (box2b (show w8.heap[gJ]? = some (.cells #[.int .i64 F3, .slice A6 N3 c6] 33 (0, 0)) by rw [← hw8, ← hgJ]; exact heap_alloc_new w6 _))
  have hWW8 := Lib.hid hw8
  have hGJ := Lib.hid hgJ
  obtain ⟨p0, p1⟩ := HBP.out w6 hb6
  obtain ⟨q0, q1⟩ := HBQ.out w6 hb6
  have hpl := block_lt_of_cell p0
  have hql := block_lt_of_cell q0
  clear hj6 hb6 hw8 hgJ hb68 hb58 hF3 hN3
  go_wp2_with fail
  rw [hWW8.out]
  simp only [hGJ.out]
  clear p0 p1 q0 q1 hpl hql
  obtain ⟨v1, hv1⟩ : ∃ v, sameB U xs = v := ⟨_, rfl⟩
  obtain ⟨v2, hv2⟩ : ∃ v, sameB U ys = v := ⟨_, rfl⟩
  have lx4 : xs.length ≤ 4000 := by have := HLX.out.2.2.1; omega
  have ly4 : ys.length ≤ 4000 := by have := HLX.out.2.2.2; omega
  have lU4 : U.length ≤ 10000 := by have := HU.out.2.2; omega
  have HC1 := Lib.hid (fun W (hW : Below w8.heap.size w8 W) => has_at A3 A3 c3 c3 N1 N1 F1 F1 xs xs true W HFN.out.1 HFN.out.1 HFN.out.2.1 HFN.out.2.1 (by unfold hasB; rw [HUU.out.2.1]; exact sameB_self xs) (HP8.out.below hW) (HP8.out.below hW) HAS.out.1 HAS.out.1 HAS.out.2.2.1 HAS.out.2.2.1 lx4 lx4)
  have HC2 := Lib.hid (fun W (hW : Below w8.heap.size w8 W) => has_at A3 A4 c3 c4 N1 N2 F1 F2 xs ys v1 W HFN.out.1 HFN.out.2.2.1 HFN.out.2.1 HFN.out.2.2.2 (by unfold hasB; rw [HUU.out.1]; exact hv1) (HP8.out.below hW) (HQ8.out.below hW) HAS.out.1 HAS.out.2.1 HAS.out.2.2.1 HAS.out.2.2.2 lx4 ly4)
  have HC3 := Lib.hid (fun W (hW : Below w8.heap.size w8 W) => same_at A6 A3 c6 c3 N3 N1 F3 F1 U xs v1 W HFU.out.1 HFN.out.1 HFU.out.2 HFN.out.2.1 hv1 (HJ8.out.below hW) (HP8.out.below hW) lU4 (by omega))
  have HC4 := Lib.hid (fun W (hW : Below w8.heap.size w8 W) => has_at A4 A3 c4 c3 N2 N1 F2 F1 ys xs v2 W HFN.out.2.2.1 HFN.out.1 HFN.out.2.2.2 HFN.out.2.1 (by unfold hasB; rw [HUU.out.2.2]; exact hv2) (HQ8.out.below hW) (HP8.out.below hW) HAS.out.2.1 HAS.out.1 HAS.out.2.2.2 HAS.out.2.2.1 ly4 lx4)
  have HC5 := Lib.hid (fun W (hW : Below w8.heap.size w8 W) => same_at A6 A4 c6 c4 N3 N2 F3 F2 U ys v2 W HFU.out.1 HFN.out.2.2.1 HFU.out.2 HFN.out.2.2.2 hv2 (HJ8.out.below hW) (HQ8.out.below hW) lU4 (by omega))
  have HC6 := Lib.hid (fun W (hW : Below w8.heap.size w8 W) => show Calls Try.prog 9 #[.agg #[.int .i64 F1, .slice A3 N1 c3], .agg #[.int .i64 F1, .slice A3 N1 c3]] W (fun e w' => ∃ A c, e = .returned (.agg #[.int .i64 F1, .slice A N1 c]) ∧ Ly w' A xs ∧ Below W.heap.size W w') from by
    refine (join_at A3 A3 c3 c3 N1 N1 F1 F1 xs xs xs W HFN.out.1 HFN.out.1 HFN.out.2.1 HFN.out.2.1 HUU.out.2.1 (HP8.out.below hW) (HP8.out.below hW) HAS.out.1 HAS.out.1 HAS.out.2.2.1 HAS.out.2.2.1 lx4 lx4).mono ?_
    rintro e w' ⟨A, c, rfl, h1, _, h3⟩
    exact ⟨A, c, by rw [HFN.out.1, HFN.out.2.1], h1, h3⟩)
  have HC7 := Lib.hid (fun W A c (hW : Below w8.heap.size w8 W) (hl : Ly W A xs) => same_at A A3 c c3 N1 N1 F1 F1 xs xs true W HFN.out.1 HFN.out.1 HFN.out.2.1 HFN.out.2.1 (sameB_self xs) hl (HP8.out.below hW) (by omega) (by omega))
  obtain ⟨x0, x1⟩ := HBP8.out w8 (Below.refl _ _)
  obtain ⟨y0, y1⟩ := HBQ8.out w8 (Below.refl _ _)
  obtain ⟨z0, z1⟩ := HBJ8.out w8 (Below.refl _ _)
  have HK := Lib.hid (fun W W' (hW : Below w8.heap.size w8 W) (hb : Below W.heap.size W W') => show Below w8.heap.size w8 W' ∧ (W'.cell? ⟨gP, 0, none⟩ = some (.int .i64 F1) ∧ W'.cell? ⟨gP, 1, none⟩ = some (.slice A3 N1 c3)) ∧ (W'.cell? ⟨gQ, 0, none⟩ = some (.int .i64 F2) ∧ W'.cell? ⟨gQ, 1, none⟩ = some (.slice A4 N2 c4)) ∧ (W'.cell? ⟨gJ, 0, none⟩ = some (.int .i64 F3) ∧ W'.cell? ⟨gJ, 1, none⟩ = some (.slice A6 N3 c6)) from
    have h := hW.trans (hb.mono hW.size)
    ⟨h, HBP8.out W' h, HBQ8.out W' h, HBJ8.out W' h⟩)
  clear hv1 hv2
  go_cut [78] from 79 (fun s78 wx => HcRel w8 s78 wx)
  case first =>
    go_region_held3 (fun W' => Below w8.heap.size w8 W' ∧ (W'.cell? ⟨gP, 0, none⟩ = some (.int .i64 F1) ∧ W'.cell? ⟨gP, 1, none⟩ = some (.slice A3 N1 c3)) ∧ (W'.cell? ⟨gQ, 0, none⟩ = some (.int .i64 F2) ∧ W'.cell? ⟨gQ, 1, none⟩ = some (.slice A4 N2 c4)) ∧ (W'.cell? ⟨gJ, 0, none⟩ = some (.int .i64 F3) ∧ W'.cell? ⟨gJ, 1, none⟩ = some (.slice A6 N3 c6)))
      (first | assumption | exact HK.out w8 _ (Below.refl _ _) ((Below.refl _ _).drew) | exact HK.out _ _ (And.left (by assumption)) (by assumption))
      (first
        | (go_at_call 11; first
          | ((with_reducible refine (HC1.out _ (And.left (by assumption))).mono ?_); rintro e w9 ⟨rfl, hb9⟩)
          | ((with_reducible refine (HC2.out _ (And.left (by assumption))).mono ?_); rintro e w9 ⟨rfl, hb9⟩)
          | ((with_reducible refine (HC4.out _ (And.left (by assumption))).mono ?_); rintro e w9 ⟨rfl, hb9⟩))
        | (go_at_call 9; ((with_reducible refine (HC6.out _ (And.left (by assumption))).mono ?_); rintro e w9 ⟨A9, c9, rfl, hl9, hb9⟩))
        | (go_at_call 12; first
          | ((with_reducible refine (HC3.out _ (And.left (by assumption))).mono ?_); rintro e w9 ⟨rfl, hb9⟩)
          | ((with_reducible refine (HC5.out _ (And.left (by assumption))).mono ?_); rintro e w9 ⟨rfl, hb9⟩)
          | ((with_reducible refine (HC7.out _ _ _ (And.left (by assumption)) (by assumption)).mono ?_); rintro e w9 ⟨rfl, hb9⟩)))
    all_goals (go_wp2_with fail)
    all_goals go_meet
    all_goals exact ⟨rfl, And.left (by assumption)⟩
  case rest =>
    obtain ⟨rfl, hb⟩ := hcut
    have HB := Lib.hid hb
    obtain ⟨x2, x3⟩ := HBP8.out _ hb
    clear hb x0 x1 y0 y1 z0 z1
    go_wp2_with fail
    refine (counts_at A3 A1 c3 N1 c1 a.length a.length F1 xs X _ HLX.out.2.2.1.symm HFN.out.1 HFN.out.2.1 HLX.out.1.symm (HP8.out.below HB.out) HAS.out.1 HAS.out.2.2.1 (by omega) (HX8.out.below HB.out) (by have := HX1.out.2.1; rw [HLX.out.1] at this; exact this) HX1.out.2.2).mono ?_
    rintro e w10 ⟨g, rfl, hc10, hb10⟩
    rw [HCS.out] at hc10
    have HC10 := Lib.hid hc10
    have HB10 := Lib.hid (HB.out.trans (hb10.mono HB.out.size))
    have HX10 := Lib.hid (HX8.out.below HB10.out)
    clear hc10 hb10 x2 x3
    go_wp2_with fail
    go_loopw [89] (fun i wr => HoRel a.length w10 i wr) (fun i _ => a.length - (intOf i).toNat)
    case atStart => exact ⟨0, by omega, rfl, 0, rfl⟩
    case round =>
      obtain ⟨k, hk, rfl, nd, rfl⟩ := hrel
      by_cases hlt : k < a.length
      · have hxl := HLX.out.1
        obtain ⟨b1', o1, rfl, h1⟩ := HX10.out.twos (by omega)
        obtain ⟨b2', o2, e2, h2⟩ := HC10.out.ints (by simp; omega)
        obtain ⟨rfl, rfl⟩ : g = b2' ∧ 0 = o2 := by simpa using e2
        obtain ⟨p, hp⟩ := getElem?_lt (l := X) (k := k) (by omega)
        obtain ⟨p1, p2⟩ := h1 k p hp
        have r1 := h2 k p.2 (by simp [hp])
        rw [Nat.zero_add] at r1
        obtain ⟨pi, pc⟩ := p
        simp only at p1 p2 r1
        have hne : (pc != pc) = false := by simp
        have hki2 : (k : Int) < (a.length : Int) := by omega
        clear h1 h2 hp e2 hxl
        go_wp2_with fail
        go_quiet (fail)
        go_wp2_with fail
        go_roundw
        case rel => exact ⟨k + 1, by omega, by go_num, _, rfl⟩
        case measure => simp [intOf]; omega
      · obtain rfl : k = a.length := by omega
        have hki2 : ¬ ((a.length : Int) < (a.length : Int)) := by omega
        go_wp2_with fail
        refine (awake06 _).mono ?_
        rintro e w11 ⟨rfl, hb11⟩
        have HB11 := Lib.hid (HB10.out.trans (((below_drewN (Below.refl _ _) nd).trans (hb11.mono (Nat.le_refl _))).mono HB10.out.size))
        obtain ⟨z2, z3⟩ := HBJ8.out w11 HB11.out
        clear hb11
        go_wp2_with fail
        refine (right_at F3 ((a.length : Int) + (b.length : Int)) A6 c6 N3 U w11 HFU.out.1 HFU.out.2 (HJ8.out.below HB11.out) HU.out.1 HUI.out lU4 (by have := HU.out.2.2; have := HLX.out; omega) (by omega)).mono ?_
        rintro e w12 ⟨rfl, hb12⟩
        have HEND := Lib.hid (HB8.out.trans ((HB11.out.trans (hb12.mono HB11.out.size)).mono HB8.out.size))
        clear hb12
        go_wp2_with fail
        go_ret
        exact ⟨rfl, HEND.out⟩
theorem holds_long (A B C : Option Addr) (n m ca cb cc k : Nat) (f t : Int) (w : World) (hn : n ≤ 9223372036854775807) (hm : m ≤ 9223372036854775807) (h : ¬ (n ≤ 200 ∧ m ≤ 200)) :
    Calls Try.prog 4 #[.slice A n ca, .slice B m cb, .int .i16 f, .int .i16 t, .slice C k cc] w fun e w' => e = .returned (.bool true) ∧ Below w.heap.size w w' := by
  by_cases h1 : n ≤ 200
  · have h2 : decide ((200 : Int) < (m : Int)) = true := by simp; omega
    have h3 : decide ((200 : Int) < (n : Int)) = false := by simp; omega
    clear h h1
    go_enter Try.func4, Try.ntmps4
    go_wp2_with fail
    refine (awake06 _).mono ?_
    rintro e w7 ⟨rfl, hb7⟩
    have HB := Lib.hid hb7
    clear hb7
    go_wp2_with fail
    go_ret
    exact ⟨rfl, HB.out⟩
  · have h3 : decide ((200 : Int) < (n : Int)) = true := by simp; omega
    clear h h1
    go_enter Try.func4, Try.ntmps4
    go_wp2_with fail
    refine (awake06 _).mono ?_
    rintro e w7 ⟨rfl, hb7⟩
    have HB := Lib.hid hb7
    clear hb7
    go_wp2_with fail
    go_ret
    exact ⟨rfl, HB.out⟩
theorem spanHolds_walk (a0 : Option Addr) (len0 cap0 : Nat) (z0 : List Int) (a1 : Option Addr) (len1 cap1 : Nat) (z1 : List Int) (a2 a3 : Int) (a4 : Option Addr) (len4 cap4 : Nat) (z4 : List Int) (w : World) (w0 : RowIn .u8 w a0 len0 cap0 z0) (w1 : RowIn .u8 w a1 len1 cap1 z1) (w2 : (Lit.int .i16 a2).wf = true) (w3 : (Lit.int .i16 a3).wf = true) (w4 : RowIn .u64 w a4 len4 cap4 z4) :
    Calls Try.prog 4 #[.slice a0 len0 cap0, .slice a1 len1 cap1, .int .i16 a2, .int .i16 a3, .slice a4 len4 cap4] w fun e w' => e = .returned (.bool true) ∧ Below w.heap.size w w' := by
  obtain ⟨l0, rfl, hS0, hw0, hlc0, hcm0⟩ := cl_of_row w0
  obtain ⟨l1, rfl, hS1, hw1, hlc1, hcm1⟩ := cl_of_row w1
  obtain ⟨l4, rfl, hS4, hw4, hlc4, hcm4⟩ := cl_of_row w4
  obtain ⟨b1, b2⟩ := bounds_i16 w2
  obtain ⟨b3, b4⟩ := bounds_i16 w3
  by_cases hl : l0.length ≤ 200 ∧ l1.length ≤ 200
  · exact holds_main a0 a1 a4 cap0 cap1 cap4 l0 l1 l4 a2 a3 w hS0 hS1 hS4 (fun x hx => bounds_u8 (hw0 x hx)) (fun x hx => bounds_u8 (hw1 x hx)) hl.1 hl.2 (by omega) b1 b2 b3 b4
  · exact holds_long a0 a1 a4 l0.length l1.length cap0 cap1 cap4 l4.length a2 a3 w (by omega) (by omega) hl
end Go.Proofs.Ytnbjgeamdipkcaa
