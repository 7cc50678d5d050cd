/- The document's Add. -/
import Derived.Test.YtbibhjcmdehdbaaRfK
import Derived.Deep.CutRange
namespace Go.Proofs.Ytbibhjcmdehdbaa
open Go.RowKit Go.Sort Go.Maps
set_option linter.unusedVariables false

theorem refadd_two (b cap : Nat) (x y : Int) (w : World) (hx : w.cell? ⟨b, 0, none⟩ = some (.int .u64 x)) (hy : w.cell? ⟨b, 1, none⟩ = some (.int .u64 y)) (hx1 : 0 ≤ x ∧ x ≤ 18446744073709551615) (hy1 : 0 ≤ y ∧ y ≤ 18446744073709551615) (V E : Int) (hV : (if x + y ≤ 18446744073709551615 then x + y else 0) = V) (hE : (if x + y ≤ 18446744073709551615 then 0 else 5) = E) :
    Calls Try.prog 48 #[.slice (some ⟨b, 0, none⟩) 2 cap] w fun e w' => e = .returned (.tuple #[.int .u64 V, .int .i64 E]) ∧ w = w' := by
  have e : sumTo (fun i => if i = 0 then x else y) 2 = x + y := by simp [sumTo]
  refine refaddL b 2 cap (fun i => if i = 0 then x else y) V E w ⟨by omega, fun i hi => by
    rcases (show i = 0 ∨ i = 1 by omega) with rfl | rfl
    · exact ⟨by simpa using hx, by simpa using hx1.1, by simpa using hx1.2⟩
    · exact ⟨by simpa using hy, by simpa using hy1.1, by simpa using hy1.2⟩⟩ ?_ ?_
  · unfold addV; rw [e, ← hV]; rfl
  · unfold addE; rw [e, ← hE]; rfl
theorem grown_drew {W w' : World} {x : Option Nat} (h : W.drew.grownBy w' x) : W.grownBy w' x := (show W.grownBy W.drew x from ⟨rfl, rfl, rfl, Nat.le_refl _, fun _ _ _ => rfl⟩).trans h
theorem grown_drews {W w' : World} {n : Nat} {x : Option Nat} (h : (W.drewN n).grownBy w' x) : W.grownBy w' x := (show W.grownBy (W.drewN n) x from ⟨rfl, rfl, rfl, Nat.le_refl _, fun _ _ _ => rfl⟩).trans h
theorem reftidy_n (A : Option Addr) (n c : Nat) (l : List (Int × Int)) (w : World) (hn' : n = l.length) (hl : Bk w A l) (hn : l.length ≤ 5000) (hc : cnt l ≤ 18446744073709551615) :
    Calls Try.prog 49 #[.slice A n c] w (TidP w l) := by subst hn'; exact reftidy_any A c l w hl hn hc
theorem all_app {φ : Int × Int → Prop} {X Y : List (Int × Int)} (h : ∀ p ∈ X, φ p) (k : ∀ p ∈ Y, φ p) : ∀ p ∈ X ++ Y, φ p := fun p hp => (List.mem_append.1 hp).elim (h p) (k p)
theorem add_lim {x y : HV} (ox : Ok x) (oy : Ok y) (hs : x.s = y.s) (hz : x.z = y.z) (hi : inI64 (x.sm + y.sm)) (hzc : x.zc + y.zc ≤ 18446744073709551615) (hc : x.ct + y.ct ≤ 18446744073709551615) :
    mAddE x y = if 512 < (tidy (x.P ++ y.P)).length ∨ 512 < (tidy (x.Q ++ y.Q)).length then 9 else 0 := by
  have g := addR_ct ox oy
  have gg : (mAddV x y).zc + cnt (x.P ++ y.P) + cnt (x.Q ++ y.Q) = x.ct + y.ct := g
  have gz : (mAddV x y).zc = x.zc + y.zc := rfl
  by_cases hp : 512 < (tidy (x.P ++ y.P)).length
  · rw [if_pos (.inl hp)]
    unfold mAddE
    rw [if_neg (by omega), if_pos hi]
    unfold mkE
    rw [gg, if_neg (by omega)]
    exact (chk_P (kind_iff.2 ⟨(addV_k ox oy).1, ox.s, ox.z⟩) (side_big hp) (by decide)).symm
  · by_cases hq : 512 < (tidy (x.Q ++ y.Q)).length
    · rw [if_pos (.inr hq)]
      have nP := ox.nP.append oy.nP
      have mem : ∀ {φ : Int → Prop} {L M : List (Int × Int)}, (∀ p ∈ L, φ p.1) → (∀ p ∈ M, φ p.1) → ∀ p ∈ tidy (L ++ M), φ p.1 := by
        intro φ L M hL hM p hp
        obtain ⟨q, hq, e⟩ := mem_tidy hp
        rw [← e]
        exact (List.mem_append.1 hq).elim (hL q) (hM q)
      have h1 : sideE x.s x.z (tidy (x.P ++ y.P)) = 0 := side_iff.2 ⟨by omega, tidy_asc _, fun p hp => ⟨by have := tidy_pos nP p hp; omega, mem (φ := fun i => inB x.s i = true) ox.iP (by rw [hs]; exact oy.iP) p hp, mem (φ := fun i => x.z ≤ un x.s (i - 1)) ox.zP (by rw [hs, hz]; exact oy.zP) p hp⟩⟩
      unfold mAddE
      rw [if_neg (by omega), if_pos hi]
      unfold mkE
      rw [gg, if_neg (by omega)]
      exact (chk_Q (kind_iff.2 ⟨(addV_k ox oy).1, ox.s, ox.z⟩) h1 (side_big hq) (by decide)).symm
    · rw [if_neg (by omega), add_E ox oy hs hz (by omega) (by omega), if_pos ⟨hc, hi⟩]
def AddCutA (wb w6 : World) (gO : Nat) (v0 v1 v2 v3 v4 v5 : Value) (X : List (Int × Int)) (wx : World) : Prop := ∃ A9 c9, Box wx gO v0 v1 v2 v3 v4 v5 (.slice A9 X.length c9) (.slice none 0 0) ∧ Bk wx A9 X ∧ NewA w6 A9 ∧ Below wb.heap.size wb wx
theorem AddCutA.of {wb w6 w9 : World} {gO c9 : Nat} {A9 : Option Addr} {v0 v1 v2 v3 v4 v5 : Value} {X : List (Int × Int)} (hx : Box w6 gO v0 v1 v2 v3 v4 v5 (.slice none 0 0) (.slice none 0 0)) (h6 : Below wb.heap.size wb w6) (hg : gO = wb.heap.size) (hA : Bk w9 A9 X ∧ NewA w6 A9) (h9 : Below w6.heap.size w6 w9) : AddCutA wb w6 gO v0 v1 v2 v3 v4 v5 X (w9.setCell ⟨gO, 6, none⟩ (.slice A9 X.length c9)) :=
  ⟨A9, c9, (hx.below h9).set6 _, hA.1.off (hA.2.ne hx.lt) 6 _, hA.2, (h6.trans (h9.mono h6.size)).setCell (p := ⟨gO, 6, none⟩) (by simp; omega) _⟩
def AddCutB (wb : World) (gO : Nat) (v0 v1 v2 v3 v4 v5 : Value) (X Y : List (Int × Int)) (wx : World) : Prop := ∃ A9 c9 B9 d9, Box wx gO v0 v1 v2 v3 v4 v5 (.slice A9 X.length c9) (.slice B9 Y.length d9) ∧ (Bk wx A9 X ∧ Bk wx B9 Y) ∧ (NewA wb A9 ∧ NewA wb B9) ∧ Below wb.heap.size wb wx
theorem AddCutB.of {wb w6 w9 : World} {gO c9 d9 : Nat} {A9 B9 : Option Addr} {v0 v1 v2 v3 v4 v5 : Value} {X Y : List (Int × Int)} (hx : Box w6 gO v0 v1 v2 v3 v4 v5 (.slice A9 X.length c9) (.slice none 0 0)) (hX : Bk w6 A9 X ∧ NewA wb A9 ∧ ∀ a, A9 = some a → a.block ≠ gO) (h6 : Below wb.heap.size wb w6) (hg : gO = wb.heap.size) (hA : Bk w9 B9 Y ∧ NewA w6 B9) (h9 : Below w6.heap.size w6 w9) : AddCutB wb gO v0 v1 v2 v3 v4 v5 X Y (w9.setCell ⟨gO, 7, none⟩ (.slice B9 Y.length d9)) :=
  ⟨A9, c9, B9, d9, (hx.below h9).set7 _, ⟨(hX.1.below h9).off hX.2.2 7 _, hA.1.off (hA.2.ne hx.lt) 7 _⟩, ⟨hX.2.1, hA.2.mono h6.size⟩, (h6.trans (h9.mono h6.size)).setCell (p := ⟨gO, 7, none⟩) (by simp; omega) _⟩
/-- append(x, s...) as a step of a region that draws its order -/
theorem step_app_bks {ops : Array Oper} {o : Oper} {a : Act} {w : World} {K : Act → World → Prop} {Q : Exit → Act → World → Prop} {E : Prop} (hgd : o.guard = none) (s x : Operand)
    (ho : o.op = .call { callee := .builtin .append, args := #[s, x], argTypes := #[23, 23] })
    (base : Nat) (v : Value) (n : Nat) (X : List (Int × Int)) (hs : a.eval s = v) (hown : w.ownsRow base 80 2 v n (cellsL X))
    (A : Option Addr) (m c : Nat) (l : List (Int × Int)) (hx : a.eval x = .slice A m c) (hm : m = l.length) (hS : Bk w A l) (hl : n + m ≤ 1000000) (hbase : base ≤ w.heap.size) (Z : List (Int × Int)) (hZ : X ++ l = Z) (hZn : n + m = Z.length)
    (h : ∀ A' c' w', w'.ownsRow base 80 2 (.slice A' Z.length c') Z.length (cellsL Z) → w.grownBy w' v.ownBlock → K (a.put o.dst (.slice A' Z.length c')) w') :
    if Region.wanted o (yielded ops a.tmps) = true then Oper.wp Try.prog o a w K Q else E := by
  have hw : Region.wanted o (yielded ops a.tmps) = true := by simp [Region.wanted, hgd]
  rw [if_pos hw]
  obtain ⟨i0, hi, hz0, hz1, hz2⟩ := info_parts infoB
  rw [← hZn, ← hZ] at h
  clear hZ hZn
  subst hm
  cases A with
  | none =>
    obtain rfl := bk_none hS
    obtain ⟨A', c', rfl⟩ := ownB_shape hown
    have hrun : (Builtin.append_ #[23, 23] o.type #[.slice A' n c', .slice none 0 c]).run Try.prog w = .ok (.slice A' n c') w := by
      rcases hown.2 with ⟨he, hn⟩ | ⟨g, cap, cur, he, _, _, hnc, _⟩
      · rw [he]; simp [Builtin.append_, run_underlying Try.underlying23, sizeOf, typeInfo, hi, Builtin.lenOf, Builtin.firstCells]
      · rw [he]; simp [Builtin.append_, run_underlying Try.underlying23, sizeOf, typeInfo, hi, Builtin.lenOf, Builtin.firstCells, hnc, storeCells]
    have hh := h A' c' w (by simpa using hown) (World.grownBy.refl w _)
    simp only [List.length_nil, Nat.add_zero] at hh hx
    unfold Oper.wp
    simp [execOp, ho, resolve, invoke, builtin, hs, hx, hrun, Result.andThen]
    exact hh
  | some ad =>
    refine wp_append_own w s x 23 ho base 80 i0 (.agg #[.int .i64 0, .int .u64 0]) 2 16 Try.underlying23 hi hz0 hz1 hz2 rfl (by decide) v n (cellsL X) hs hown ad l.length c (cellsL l) hx (cellsL_length l) (bk_src hS) (cellsL_one l) (by unfold maxLen; omega) (by omega) hbase ?_
    intro v' w' h1 h2 _
    rw [← cellsL_append] at h1
    obtain ⟨A', c', rfl⟩ := ownB_shape h1
    exact h A' c' w' h1 h2
set_option maxHeartbeats 3000000 in
set_option maxRecDepth 100000 in
theorem refadd_h (a b : HV) (A B A' B' : Option Addr) (c d c' d' : Nat) (w : World) (hP : Bk w A a.P) (hQ : Bk w B a.Q) (hP' : Bk w A' b.P) (hQ' : Bk w B' b.Q) (oa : Ok a) (ob : Ok b) :
    Calls Try.prog 15 #[.agg #[.int .i64 a.k, .int .i64 a.s, .int .i64 a.z, .int .u64 a.zc, .int .u64 a.ct, .int .i64 a.sm, .slice A a.P.length c, .slice B a.Q.length d], .agg #[.int .i64 b.k, .int .i64 b.s, .int .i64 b.z, .int .u64 b.zc, .int .u64 b.ct, .int .i64 b.sm, .slice A' b.P.length c', .slice B' b.Q.length d']] w (fun e w' => ∃ x y, Two a b x y ∧ RetH w (mAddO x y) (mAddE x y) e w') := by
  have HO := Lib.hid (And.intro oa ob)
  have bx0 := ((Box.new w (.int .i64 a.k) (.int .i64 a.s) (.int .i64 a.z) (.int .u64 a.zc) (.int .u64 a.ct) (.int .i64 a.sm) (.slice A a.P.length c) (.slice B a.Q.length d)).alloc (.cells #[.int .i64 b.k, .int .i64 b.s, .int .i64 b.z, .int .u64 b.zc, .int .u64 b.ct, .int .i64 b.sm, .slice A' b.P.length c', .slice B' b.Q.length d'] 25)).alloc (.cells #[.int .i64 0, .int .i64 0, .int .i64 0, .int .u64 0, .int .u64 0, .int .i64 0, .slice none 0 0, .slice none 0 0] 25)
  have bx1 := (Box.newAt (w.alloc (.cells #[.int .i64 a.k, .int .i64 a.s, .int .i64 a.z, .int .u64 a.zc, .int .u64 a.ct, .int .i64 a.sm, .slice A a.P.length c, .slice B a.Q.length d] 25)) (w.heap.size + 1) (by simp) (.int .i64 b.k) (.int .i64 b.s) (.int .i64 b.z) (.int .u64 b.zc) (.int .u64 b.ct) (.int .i64 b.sm) (.slice A' b.P.length c') (.slice B' b.Q.length d')).alloc (.cells #[.int .i64 0, .int .i64 0, .int .i64 0, .int .u64 0, .int .u64 0, .int .i64 0, .slice none 0 0, .slice none 0 0] 25)
  have bx2 := Box.newAt ((w.alloc (.cells #[.int .i64 a.k, .int .i64 a.s, .int .i64 a.z, .int .u64 a.zc, .int .u64 a.ct, .int .i64 a.sm, .slice A a.P.length c, .slice B a.Q.length d] 25)).alloc (.cells #[.int .i64 b.k, .int .i64 b.s, .int .i64 b.z, .int .u64 b.zc, .int .u64 b.ct, .int .i64 b.sm, .slice A' b.P.length c', .slice B' b.Q.length d'] 25)) (w.heap.size + 1 + 1) (by simp) (.int .i64 0) (.int .i64 0) (.int .i64 0) (.int .u64 0) (.int .u64 0) (.int .i64 0) (.slice none 0 0) (.slice none 0 0)
  have hb := (((Below.refl w.heap.size w).alloc (Nat.le_refl _) (.cells #[.int .i64 a.k, .int .i64 a.s, .int .i64 a.z, .int .u64 a.zc, .int .u64 a.ct, .int .i64 a.sm, .slice A a.P.length c, .slice B a.Q.length d] 25)).alloc (by simp) (.cells #[.int .i64 b.k, .int .i64 b.s, .int .i64 b.z, .int .u64 b.zc, .int .u64 b.ct, .int .i64 b.sm, .slice A' b.P.length c', .slice B' b.Q.length d'] 25)).alloc (by simp; omega) (.cells #[.int .i64 0, .int .i64 0, .int .i64 0, .int .u64 0, .int .u64 0, .int .i64 0, .slice none 0 0, .slice none 0 0] 25)
  have HX0 := Lib.hid (And.intro bx0 (And.intro bx1 bx2))
  have HB0 := Lib.hid hb
  have HK0 := Lib.hid (And.intro (And.intro (hP.below hb) (hQ.below hb)) (And.intro (hP'.below hb) (hQ'.below hb)))
  have sa := oa.sm
  have sb := ob.sm
  have sa1 := sa.1
  have sa2 := sa.2
  have sb1 := sb.1
  have sb2 := sb.2
  clear hP hQ hP' hQ' oa ob bx0 bx1 bx2 hb
  obtain ⟨S, hS⟩ : ∃ s, a.sm + b.sm = s := ⟨_, rfl⟩
  have HS := Lib.hid hS
  obtain ⟨SV, hSV⟩ : ∃ s, intV S = s := ⟨_, rfl⟩
  obtain ⟨SE, hSE⟩ : ∃ s, intE S = s := ⟨_, rfl⟩
  have HSV := Lib.hid (And.intro hSV hSE)
  have HI := Lib.hid (And.intro sa sb)
  clear hS hSV hSE
  go_enter Try.func15, Try.ntmps15
  go_wp2_with fail
  clear sa sb sa1 sa2 sb1 sb2
  have hs0 : (((w.alloc (.cells #[.int .i64 a.k, .int .i64 a.s, .int .i64 a.z, .int .u64 a.zc, .int .u64 a.ct, .int .i64 a.sm, .slice A a.P.length c, .slice B a.Q.length d] 25)).alloc (.cells #[.int .i64 b.k, .int .i64 b.s, .int .i64 b.z, .int .u64 b.zc, .int .u64 b.ct, .int .i64 b.sm, .slice A' b.P.length c', .slice B' b.Q.length d'] 25)).alloc (.cells #[.int .i64 0, .int .i64 0, .int .i64 0, .int .u64 0, .int .u64 0, .int .i64 0, .slice none 0 0, .slice none 0 0] 25)).heap.size = w.heap.size + 1 + 1 + 1 := by simp
  generalize (((w.alloc (.cells #[.int .i64 a.k, .int .i64 a.s, .int .i64 a.z, .int .u64 a.zc, .int .u64 a.ct, .int .i64 a.sm, .slice A a.P.length c, .slice B a.Q.length d] 25)).alloc (.cells #[.int .i64 b.k, .int .i64 b.s, .int .i64 b.z, .int .u64 b.zc, .int .u64 b.ct, .int .i64 b.sm, .slice A' b.P.length c', .slice B' b.Q.length d'] 25)).alloc (.cells #[.int .i64 0, .int .i64 0, .int .i64 0, .int .u64 0, .int .u64 0, .int .i64 0, .slice none 0 0, .slice none 0 0] 25)) = w0 at *
  have hw : Below w0.heap.size w0 (w0.alloc (.cells #[.int .i64 a.sm, .int .i64 b.sm] 2)) := (Below.refl _ _).alloc (Nat.le_refl _) _
  have HX1 := Lib.hid (And.intro (HX0.out.1.below hw) (And.intro (HX0.out.2.1.below hw) (HX0.out.2.2.below hw)))
  have HB1 := Lib.hid (HB0.out.trans (hw.mono HB0.out.size))
  have HK1 := Lib.hid (And.intro (And.intro (HK0.out.1.1.below hw) (HK0.out.1.2.below hw)) (And.intro (HK0.out.2.1.below hw) (HK0.out.2.2.below hw)))
  obtain ⟨c0_, c1_⟩ := new_twoB w0 (.int .i64 a.sm) (.int .i64 b.sm) 2
  rw [hs0] at c0_ c1_
  clear hs0 HX0 HB0 HK0 hw
  generalize w0.alloc (.cells #[.int .i64 a.sm, .int .i64 b.sm] 2) = w1 at *
  refine (refaddint_two (w.heap.size + 1 + 1 + 1) 2 a.sm b.sm w1 c0_ c1_ HI.out.1 HI.out.2 S HS.out).mono ?_
  rw [HSV.out.1, HSV.out.2]
  rintro e w1' ⟨rfl, rfl⟩
  clear c0_ c1_ HI
  obtain ⟨x0, x1, x2, x3, x4, x5, x6, x7⟩ := HX1.out.1.cells
  obtain ⟨y0, y1, y2, y3, y4, y5, y6, y7⟩ := HX1.out.2.1.cells
  have l0 := HX1.out.1.lt
  have l1 := HX1.out.2.1.lt
  go_wp2_with fail
  clear x0 x1 x2 x3 x4 x5 x6 x7 y0 y1 y2 y3 y4 y5 y6 y7 l0 l1
  refine (refalike_any a b A B A' B' c d c' d' w1 HK1.out.1.1 HK1.out.1.2 HK1.out.2.1 HK1.out.2.2 HO.out.1 HO.out.2 _ _ rfl rfl).mono ?_
  rintro e w2 ⟨x, y, hk, A1, B1, A2, B2, c1, d1, c2, d2, rfl, ⟨hA1, hB1, hA2, hB2⟩, hb, nA1, nB1, nA2, nB2⟩
  have HT := Lib.hid (show Two a b x y from ⟨hk, HO.out.1, HO.out.2⟩)
  have HLt := Lib.hid (And.intro HX1.out.1.lt HX1.out.2.1.lt)
  have HX2 := Lib.hid (And.intro (HX1.out.1.below hb) (And.intro (HX1.out.2.1.below hb) (HX1.out.2.2.below hb)))
  have HB2 := Lib.hid (HB1.out.trans (hb.mono HB1.out.size))
  have HA2 := Lib.hid (And.intro (And.intro hA1 hB1) (And.intro hA2 hB2))
  have HN2 := Lib.hid (And.intro (And.intro nA1 nB1) (And.intro nA2 nB2))
  have HS2 := Lib.hid (Nat.le_trans HB1.out.size hb.size)
  clear hk hA1 hB1 hA2 hB2 hb nA1 nB1 nA2 nB2 HX1 HB1 HK1
  obtain ⟨x0, x1, x2, x3, x4, x5, x6, x7⟩ := HX2.out.1.cells
  obtain ⟨y0, y1, y2, y3, y4, y5, y6, y7⟩ := HX2.out.2.1.cells
  have l0 := HX2.out.1.lt
  have l1 := HX2.out.2.1.lt
  obtain ⟨f0, f1, f2, f3, f4, f5, f6, f7⟩ := HX2.out.1.frozen
  obtain ⟨g0, g1, g2, g3, g4, g5, g6, g7⟩ := HX2.out.2.1.frozen
  simp only [hvA]
  go_wp2_with fail
  clear x0 x1 x2 x3 x4 x5 x6 x7 y0 y1 y2 y3 y4 y5 y6 y7 l0 l1 f0 f1 f2 f3 f4 f5 f6 f7 g0 g1 g2 g3 g4 g5 g6 g7
  have HX3 := Lib.hid (And.intro (Box.off8 (HX2.out.1.put8 (.int .i64 x.k) (.int .i64 x.s) (.int .i64 x.z) (.int .u64 x.zc) (.int .u64 x.ct) (.int .i64 x.sm) (.slice A1 x.P.length c1) (.slice B1 x.Q.length d1)) (show w.heap.size ≠ w.heap.size + 1 by omega) (.int .i64 y.k) (.int .i64 y.s) (.int .i64 y.z) (.int .u64 y.zc) (.int .u64 y.ct) (.int .i64 y.sm) (.slice A2 y.P.length c2) (.slice B2 y.Q.length d2)) (And.intro (Box.put8 (HX2.out.2.1.off8 (show w.heap.size + 1 ≠ w.heap.size by omega) (.int .i64 x.k) (.int .i64 x.s) (.int .i64 x.z) (.int .u64 x.zc) (.int .u64 x.ct) (.int .i64 x.sm) (.slice A1 x.P.length c1) (.slice B1 x.Q.length d1)) (.int .i64 y.k) (.int .i64 y.s) (.int .i64 y.z) (.int .u64 y.zc) (.int .u64 y.ct) (.int .i64 y.sm) (.slice A2 y.P.length c2) (.slice B2 y.Q.length d2)) (Box.off8 (HX2.out.2.2.off8 (show w.heap.size + 1 + 1 ≠ w.heap.size by omega) (.int .i64 x.k) (.int .i64 x.s) (.int .i64 x.z) (.int .u64 x.zc) (.int .u64 x.ct) (.int .i64 x.sm) (.slice A1 x.P.length c1) (.slice B1 x.Q.length d1)) (show w.heap.size + 1 + 1 ≠ w.heap.size + 1 by omega) (.int .i64 y.k) (.int .i64 y.s) (.int .i64 y.z) (.int .u64 y.zc) (.int .u64 y.ct) (.int .i64 y.sm) (.slice A2 y.P.length c2) (.slice B2 y.Q.length d2))))
  have HB3 := Lib.hid (below_set8 (below_set8 HB2.out (Nat.le_refl _) (.int .i64 x.k) (.int .i64 x.s) (.int .i64 x.z) (.int .u64 x.zc) (.int .u64 x.ct) (.int .i64 x.sm) (.slice A1 x.P.length c1) (.slice B1 x.Q.length d1)) (by omega : w.heap.size ≤ w.heap.size + 1) (.int .i64 y.k) (.int .i64 y.s) (.int .i64 y.z) (.int .u64 y.zc) (.int .u64 y.ct) (.int .i64 y.sm) (.slice A2 y.P.length c2) (.slice B2 y.Q.length d2))
  have HA3 := Lib.hid (And.intro (And.intro ((HA2.out.1.1.set8 (HN2.out.1.1.ne HLt.out.1) (.int .i64 x.k) (.int .i64 x.s) (.int .i64 x.z) (.int .u64 x.zc) (.int .u64 x.ct) (.int .i64 x.sm) (.slice A1 x.P.length c1) (.slice B1 x.Q.length d1)).set8 (HN2.out.1.1.ne HLt.out.2) (.int .i64 y.k) (.int .i64 y.s) (.int .i64 y.z) (.int .u64 y.zc) (.int .u64 y.ct) (.int .i64 y.sm) (.slice A2 y.P.length c2) (.slice B2 y.Q.length d2)) ((HA2.out.1.2.set8 (HN2.out.1.2.ne HLt.out.1) (.int .i64 x.k) (.int .i64 x.s) (.int .i64 x.z) (.int .u64 x.zc) (.int .u64 x.ct) (.int .i64 x.sm) (.slice A1 x.P.length c1) (.slice B1 x.Q.length d1)).set8 (HN2.out.1.2.ne HLt.out.2) (.int .i64 y.k) (.int .i64 y.s) (.int .i64 y.z) (.int .u64 y.zc) (.int .u64 y.ct) (.int .i64 y.sm) (.slice A2 y.P.length c2) (.slice B2 y.Q.length d2))) (And.intro ((HA2.out.2.1.set8 (HN2.out.2.1.ne HLt.out.1) (.int .i64 x.k) (.int .i64 x.s) (.int .i64 x.z) (.int .u64 x.zc) (.int .u64 x.ct) (.int .i64 x.sm) (.slice A1 x.P.length c1) (.slice B1 x.Q.length d1)).set8 (HN2.out.2.1.ne HLt.out.2) (.int .i64 y.k) (.int .i64 y.s) (.int .i64 y.z) (.int .u64 y.zc) (.int .u64 y.ct) (.int .i64 y.sm) (.slice A2 y.P.length c2) (.slice B2 y.Q.length d2)) ((HA2.out.2.2.set8 (HN2.out.2.2.ne HLt.out.1) (.int .i64 x.k) (.int .i64 x.s) (.int .i64 x.z) (.int .u64 x.zc) (.int .u64 x.ct) (.int .i64 x.sm) (.slice A1 x.P.length c1) (.slice B1 x.Q.length d1)).set8 (HN2.out.2.2.ne HLt.out.2) (.int .i64 y.k) (.int .i64 y.s) (.int .i64 y.z) (.int .u64 y.zc) (.int .u64 y.ct) (.int .i64 y.sm) (.slice A2 y.P.length c2) (.slice B2 y.Q.length d2))))
  have hsz : w2.heap.size = (set8 (set8 w2 (w.heap.size) (.int .i64 x.k) (.int .i64 x.s) (.int .i64 x.z) (.int .u64 x.zc) (.int .u64 x.ct) (.int .i64 x.sm) (.slice A1 x.P.length c1) (.slice B1 x.Q.length d1)) (w.heap.size + 1) (.int .i64 y.k) (.int .i64 y.s) (.int .i64 y.z) (.int .u64 y.zc) (.int .u64 y.ct) (.int .i64 y.sm) (.slice A2 y.P.length c2) (.slice B2 y.Q.length d2)).heap.size := by rw [size_set8, size_set8]
  generalize hW : ((((((((((((((((w2.setCell ⟨w.heap.size, 0, none⟩ (.int .i64 x.k)).setCell ⟨w.heap.size, 1, none⟩ (.int .i64 x.s)).setCell ⟨w.heap.size, 2, none⟩ (.int .i64 x.z)).setCell ⟨w.heap.size, 3, none⟩ (.int .u64 x.zc)).setCell ⟨w.heap.size, 4, none⟩ (.int .u64 x.ct)).setCell ⟨w.heap.size, 5, none⟩ (.int .i64 x.sm)).setCell ⟨w.heap.size, 6, none⟩ (.slice A1 x.P.length c1)).setCell ⟨w.heap.size, 7, none⟩ (.slice B1 x.Q.length d1)).setCell ⟨w.heap.size + 1, 0, none⟩ (.int .i64 y.k)).setCell ⟨w.heap.size + 1, 1, none⟩ (.int .i64 y.s)).setCell ⟨w.heap.size + 1, 2, none⟩ (.int .i64 y.z)).setCell ⟨w.heap.size + 1, 3, none⟩ (.int .u64 y.zc)).setCell ⟨w.heap.size + 1, 4, none⟩ (.int .u64 y.ct)).setCell ⟨w.heap.size + 1, 5, none⟩ (.int .i64 y.sm)).setCell ⟨w.heap.size + 1, 6, none⟩ (.slice A2 y.P.length c2)).setCell ⟨w.heap.size + 1, 7, none⟩ (.slice B2 y.Q.length d2)) = w3
  have hW' : set8 (set8 w2 (w.heap.size) (.int .i64 x.k) (.int .i64 x.s) (.int .i64 x.z) (.int .u64 x.zc) (.int .u64 x.ct) (.int .i64 x.sm) (.slice A1 x.P.length c1) (.slice B1 x.Q.length d1)) (w.heap.size + 1) (.int .i64 y.k) (.int .i64 y.s) (.int .i64 y.z) (.int .u64 y.zc) (.int .u64 y.ct) (.int .i64 y.sm) (.slice A2 y.P.length c2) (.slice B2 y.Q.length d2) = w3 := hW
  rw [hW'] at HX3 HB3 HA3 hsz
  simp only [hsz]
  clear hW hW' HX2 HB2 HA2 HN2 hsz HS2
  have HXY := Lib.hid HT.out.is
  obtain ⟨ZV, hZV⟩ : ∃ v, (if x.zc + y.zc ≤ 18446744073709551615 then x.zc + y.zc else 0) = v := ⟨_, rfl⟩
  obtain ⟨ZE, hZE⟩ : ∃ v : Int, (if x.zc + y.zc ≤ 18446744073709551615 then 0 else 5) = v := ⟨_, rfl⟩
  obtain ⟨CV, hCV⟩ : ∃ v, (if x.ct + y.ct ≤ 18446744073709551615 then x.ct + y.ct else 0) = v := ⟨_, rfl⟩
  obtain ⟨CE, hCE⟩ : ∃ v : Int, (if x.ct + y.ct ≤ 18446744073709551615 then 0 else 5) = v := ⟨_, rfl⟩
  have HZV := Lib.hid (And.intro hZV hZE)
  have HCV := Lib.hid (And.intro hCV hCE)
  clear hZV hZE hCV hCE
  obtain ⟨c0_, c1_⟩ := new_twoB w3 (.int .u64 x.zc) (.int .u64 y.zc) 22
  have hb : Below w3.heap.size w3 (w3.alloc (.cells #[.int .u64 x.zc, .int .u64 y.zc] 22)) := (Below.refl _ _).alloc (Nat.le_refl _) _
  have HX4 := Lib.hid (And.intro (HX3.out.1.below hb) (And.intro (HX3.out.2.1.below hb) (HX3.out.2.2.below hb)))
  have HB4 := Lib.hid (HB3.out.trans (hb.mono HB3.out.size))
  have HA4 := Lib.hid (And.intro (And.intro (HA3.out.1.1.below hb) (HA3.out.1.2.below hb)) (And.intro (HA3.out.2.1.below hb) (HA3.out.2.2.below hb)))
  obtain ⟨g4, hg4⟩ : ∃ g, g = w3.heap.size := ⟨_, rfl⟩
  rw [← hg4] at c0_ c1_
  rw [← hg4]
  clear hb HX3 HB3 HA3 hg4
  generalize w3.alloc (.cells #[.int .u64 x.zc, .int .u64 y.zc] 22) = w4 at *
  refine (refadd_two g4 2 x.zc y.zc w4 c0_ c1_ ⟨HXY.out.ox.zc, HXY.out.ox.toGood.z1⟩ ⟨HXY.out.oy.zc, HXY.out.oy.toGood.z1⟩ ZV ZE HZV.out.1 HZV.out.2).mono ?_
  rintro e w4' ⟨rfl, rfl⟩
  clear c0_ c1_
  obtain ⟨x0, x1, x2, x3, x4, x5, x6, x7⟩ := HX4.out.1.cells
  obtain ⟨y0, y1, y2, y3, y4, y5, y6, y7⟩ := HX4.out.2.1.cells
  have l0 := HX4.out.1.lt
  have l1 := HX4.out.2.1.lt
  go_wp2_with fail
  clear x0 x1 x2 x3 x4 x5 x6 x7 y0 y1 y2 y3 y4 y5 y6 y7 l0 l1
  obtain ⟨c0_, c1_⟩ := new_twoB w4 (.int .u64 x.ct) (.int .u64 y.ct) 22
  have hb : Below w4.heap.size w4 (w4.alloc (.cells #[.int .u64 x.ct, .int .u64 y.ct] 22)) := (Below.refl _ _).alloc (Nat.le_refl _) _
  have HX5 := Lib.hid (And.intro (HX4.out.1.below hb) (And.intro (HX4.out.2.1.below hb) (HX4.out.2.2.below hb)))
  have HB5 := Lib.hid (HB4.out.trans (hb.mono HB4.out.size))
  have HA5 := Lib.hid (And.intro (And.intro (HA4.out.1.1.below hb) (HA4.out.1.2.below hb)) (And.intro (HA4.out.2.1.below hb) (HA4.out.2.2.below hb)))
  obtain ⟨g5, hg5⟩ : ∃ g, g = w4.heap.size := ⟨_, rfl⟩
  rw [← hg5] at c0_ c1_
  rw [← hg5]
  clear hb HX4 HB4 HA4 hg5
  generalize w4.alloc (.cells #[.int .u64 x.ct, .int .u64 y.ct] 22) = w5 at *
  have hcx : 0 ≤ x.ct ∧ x.ct ≤ 18446744073709551615 := by have g := HXY.out.ox.toGood; have h1 := g.zc; have h2 := g.nP.cnt; have h3 := g.nQ.cnt; have h4 := g.ct; have h5 := g.big; omega
  have hcy : 0 ≤ y.ct ∧ y.ct ≤ 18446744073709551615 := by have g := HXY.out.oy.toGood; have h1 := g.zc; have h2 := g.nP.cnt; have h3 := g.nQ.cnt; have h4 := g.ct; have h5 := g.big; omega
  refine (refadd_two g5 2 x.ct y.ct w5 c0_ c1_ hcx hcy CV CE HCV.out.1 HCV.out.2).mono ?_
  rintro e w5' ⟨rfl, rfl⟩
  clear c0_ c1_ hcx hcy
  have HXM := Lib.hid (show x.sm + y.sm = S from by rw [HXY.out.xm, HXY.out.ym]; exact HS.out)
  obtain ⟨x0, x1, x2, x3, x4, x5, x6, x7⟩ := HX5.out.1.cells
  obtain ⟨y0, y1, y2, y3, y4, y5, y6, y7⟩ := HX5.out.2.1.cells
  have l0 := HX5.out.1.lt
  have l1 := HX5.out.2.1.lt
  by_cases hi : inI64 S
  · obtain rfl : SV = S := by rw [← HSV.out.1]; exact (int_fits hi).1
    obtain rfl : SE = 0 := by rw [← HSV.out.2]; exact (int_fits hi).2
    have HIS := Lib.hid hi
    clear hi
    by_cases hz : x.zc + y.zc ≤ 18446744073709551615
    · obtain rfl : ZV = x.zc + y.zc := by have h := HZV.out.1; rw [if_pos hz] at h; exact h.symm
      obtain rfl : ZE = 0 := by have h := HZV.out.2; rw [if_pos hz] at h; exact h.symm
      by_cases hc : x.ct + y.ct ≤ 18446744073709551615
      · obtain rfl : CV = x.ct + y.ct := by have h := HCV.out.1; rw [if_pos hc] at h; exact h.symm
        obtain rfl : CE = 0 := by have h := HCV.out.2; rw [if_pos hc] at h; exact h.symm
        have HZC := Lib.hid (And.intro hz hc)
        clear hz hc
        obtain ⟨ZV, hZV⟩ : ∃ v, x.zc + y.zc = v := ⟨_, rfl⟩
        obtain ⟨CV, hCV⟩ : ∃ v, x.ct + y.ct = v := ⟨_, rfl⟩
        simp only [hZV, hCV]
        have HZW := Lib.hid (And.intro hZV hCV)
        clear hZV hCV
        obtain ⟨z0, z1, z2, z3, z4, z5, z6, z7⟩ := HX5.out.2.2.cells
        obtain ⟨h0, h1, h2, h3, h4, h5, h6, h7⟩ := HX5.out.2.2.frozen
        have l2 := HX5.out.2.2.lt
        by_cases hk : x.k < y.k
        · go_upto_region 10 with fail
          have hbx := Box.newAt w5 w5.heap.size rfl (.int .i64 y.k) (.int .i64 x.s) (.int .i64 x.z) (.int .u64 ZV) (.int .u64 CV) (.int .i64 SV) (.slice none 0 0) (.slice none 0 0)
          have hb6 : Below w5.heap.size w5 (w5.alloc (.cells #[.int .i64 y.k, .int .i64 x.s, .int .i64 x.z, .int .u64 ZV, .int .u64 CV, .int .i64 SV, .slice none 0 0, .slice none 0 0] 25)) := (Below.refl _ _).alloc (Nat.le_refl _) _
          have HX6 := Lib.hid (And.intro (HX5.out.1.below hb6) (And.intro (HX5.out.2.1.below hb6) hbx))
          have HA6 := Lib.hid (And.intro (And.intro (HA5.out.1.1.below hb6) (HA5.out.1.2.below hb6)) (And.intro (HA5.out.2.1.below hb6) (HA5.out.2.2.below hb6)))
          have HB6 := Lib.hid hb6
          have HG := Lib.hid (show w.heap.size + 1 + 1 < w5.heap.size from l2)
          clear hbx hb6 z0 z1 z2 z3 z4 z5 z6 z7 h0 h1 h2 h3 h4 h5 h6 h7 l2
          clear x0 x1 x2 x3 x4 x5 x6 x7 y0 y1 y2 y3 y4 y5 y6 y7 l0 l1
          obtain ⟨gO, hgO⟩ : ∃ g, g = w5.heap.size := ⟨_, rfl⟩
          have HGO := Lib.hid hgO
          rw [← hgO] at HX6
          rw [← hgO]
          clear hgO
          generalize w5.alloc (.cells #[.int .i64 y.k, .int .i64 x.s, .int .i64 x.z, .int .u64 ZV, .int .u64 CV, .int .i64 SV, .slice none 0 0, .slice none 0 0] 25) = w6 at *
          obtain ⟨x0, x1, x2, x3, x4, x5, x6, x7⟩ := HX6.out.1.cells
          obtain ⟨y0, y1, y2, y3, y4, y5, y6, y7⟩ := HX6.out.2.1.cells
          have l0 := HX6.out.1.lt
          have l1 := HX6.out.2.1.lt
          have l2 := HX6.out.2.2.lt
          have HOWN := Lib.hid (show (w6.alloc (.cells #[] 80)).ownsRow w6.heap.size 80 2 (.slice (some ⟨w6.heap.size, 0, none⟩) 0 0) 0 (cellsL []) from ⟨rfl, .inr ⟨w6.heap.size, 0, #[], rfl, Nat.le_refl _, heap_alloc_new w6 _, by omega, by unfold maxLen; omega, rfl, by simp [cellsL]⟩⟩)
          have HW7 := Lib.hid (fun (w7 : World) (hg : (w6.alloc (.cells #[] 80)).grownBy w7 (some w6.heap.size)) => show Below w6.heap.size w6 w7 from ((Below.refl w6.heap.size w6).alloc (Nat.le_refl _) _).grown hg (by simp) (fun k hk => by injection hk with hk; omega))
          have HBa := Lib.hid (HA6.out.1.1.below ((Below.refl w6.heap.size w6).alloc (Nat.le_refl _) (.cells #[] 80)))
          have HLE := Lib.hid (And.intro (And.intro HXY.out.ox.lP HXY.out.oy.lP) (And.intro HXY.out.ox.lQ HXY.out.oy.lQ))
          have HCN := Lib.hid (show cnt (x.P ++ y.P) ≤ 18446744073709551615 ∧ cnt (x.Q ++ y.Q) ≤ 18446744073709551615 from by
            have hg : (mAddV x y).zc + cnt (x.P ++ y.P) + cnt (x.Q ++ y.Q) = x.ct + y.ct := addR_ct HXY.out.ox HXY.out.oy
            have e1 : (mAddV x y).zc = x.zc + y.zc := rfl
            have n1 := (HXY.out.ox.nP.append HXY.out.oy.nP).cnt
            have n2 := (HXY.out.ox.nQ.append HXY.out.oy.nQ).cnt
            have := HXY.out.ox.zc
            have := HXY.out.oy.zc
            have := HZC.out.2
            constructor <;> omega)
          go_cut [] from 75 to 86 (fun wx => AddCutA w5 w6 gO (.int .i64 y.k) (.int .i64 x.s) (.int .i64 x.z) (.int .u64 ZV) (.int .u64 CV) (.int .i64 SV) (tidy (x.P ++ y.P)) wx)
          case first =>
            go_region_law (first
              | (refine step_app_bks rfl (.tmp 76) (.tmp 78) rfl w6.heap.size (.slice (some ⟨w6.heap.size, 0, none⟩) 0 0) 0 [] rfl HOWN.out A1 x.P.length c1 x.P rfl rfl HBa.out (by have := HLE.out.1.1; omega) (by first | (simp; done) | (simp; omega)) x.P rfl (by omega) ?_; intro A7 c7 w7 ho7 hg7; have hb7 := HW7.out w7 (by first | exact hg7 | exact grown_drew hg7 | exact grown_drews hg7); have HO7 := Lib.hid ho7; have HB7 := Lib.hid hb7; have y6' := (HX6.out.2.1.below hb7).cells.2.2.2.2.2.2.1; clear ho7 hg7 hb7)
              | (refine step_app_bks rfl (.tmp 79) (.tmp 81) rfl w6.heap.size (.slice A7 x.P.length c7) x.P.length x.P rfl HO7.out A2 y.P.length c2 y.P rfl rfl (HA6.out.2.1.below HB7.out) (by have := HLE.out.1.1; have := HLE.out.1.2; omega) HB7.out.size (x.P ++ y.P) rfl (by simp) ?_; intro A8 c8 w8 ho8 hg8; have hb8 := HB7.out.grown (by first | exact hg8 | exact grown_drew hg8 | exact grown_drews hg8) HB7.out.size (fun k hk => (HO7.out.lt k hk).1); have hk8 := own_bk ho8 (all_app HXY.out.ox.wP HXY.out.oy.wP) (by have := HLE.out.1.1; have := HLE.out.1.2; rw [List.length_append]; omega); have HB8 := Lib.hid hb8; have HK8 := Lib.hid hk8; clear ho8 hg8 hb8 hk8)
              | (go_simp; go_at_call 49; refine (reftidy_n A8 (x.P.length + y.P.length) c8 (x.P ++ y.P) _ (by simp) HK8.out (by have := HLE.out.1.1; have := HLE.out.1.2; rw [List.length_append]; omega) HCN.out.1).mono ?_; rintro e w9 ⟨A9, c9, rfl, hA9, hb9, nA9⟩; have HB9 := Lib.hid (HB8.out.trans (Below.mono hb9 HB8.out.size)); have HA9 := Lib.hid (And.intro hA9 (nA9.mono HB8.out.size)); obtain ⟨z0, z1, z2, z3, z4, z5, z6, z7⟩ := (HX6.out.2.2.below HB9.out).cells; obtain ⟨h0, h1, h2, h3, h4, h5, h6, h7⟩ := (HX6.out.2.2.below HB9.out).frozen; have l9 := (HX6.out.2.2.below HB9.out).lt; clear hA9 hb9 nA9; try dsimp only))
            all_goals (go_wp2_with fail)
            all_goals go_meet
            all_goals (with_reducible exact AddCutA.of HX6.out.2.2 HB6.out HGO.out HA9.out HB9.out)
          case rest =>
            obtain ⟨A9, c9, hz, hA9, nA9, hb⟩ := hcut
            obtain ⟨wx, hwx⟩ : ∃ W, W = wc := ⟨_, rfl⟩
            subst hwx
            have HX7 := Lib.hid (And.intro (HX5.out.1.below hb) (And.intro (HX5.out.2.1.below hb) hz))
            have HA7 := Lib.hid (And.intro (And.intro hA9 (HA5.out.1.2.below hb)) (And.intro hA9 (HA5.out.2.2.below hb)))
            have HBX7 := Lib.hid hb
            have HN7 := Lib.hid (And.intro (nA9.mono HB6.out.size) (nA9.ne HX6.out.2.2.lt))
            clear hz hA9 nA9 hb HX6 HA6 HB6 HOWN HW7 HBa x0 x1 x2 x3 x4 x5 x6 x7 y0 y1 y2 y3 y4 y5 y6 y7 l0 l1 l2
            go_upto_region 11 with fail
            obtain ⟨x0, x1, x2, x3, x4, x5, x6, x7⟩ := HX7.out.1.cells
            obtain ⟨y0, y1, y2, y3, y4, y5, y6, y7⟩ := HX7.out.2.1.cells
            have l0 := HX7.out.1.lt
            have l1 := HX7.out.2.1.lt
            have l2 := HX7.out.2.2.lt
            have HOWQ := Lib.hid (show (wx.alloc (.cells #[] 80)).ownsRow wx.heap.size 80 2 (.slice (some ⟨wx.heap.size, 0, none⟩) 0 0) 0 (cellsL []) from ⟨rfl, .inr ⟨wx.heap.size, 0, #[], rfl, Nat.le_refl _, heap_alloc_new wx _, by omega, by unfold maxLen; omega, rfl, by simp [cellsL]⟩⟩)
            have HWQ := Lib.hid (fun (w7 : World) (hg : (wx.alloc (.cells #[] 80)).grownBy w7 (some wx.heap.size)) => show Below wx.heap.size wx w7 from ((Below.refl wx.heap.size wx).alloc (Nat.le_refl _) _).grown hg (by simp) (fun k hk => by injection hk with hk; omega))
            have HBq := Lib.hid (HA7.out.1.2.below ((Below.refl wx.heap.size wx).alloc (Nat.le_refl _) (.cells #[] 80)))
            go_cut [] from 87 to 98 (fun wx => AddCutB w5 gO (.int .i64 y.k) (.int .i64 x.s) (.int .i64 x.z) (.int .u64 ZV) (.int .u64 CV) (.int .i64 SV) (tidy (x.P ++ y.P)) (tidy (x.Q ++ y.Q)) wx)
            case first =>
              go_region_law (first
                | (refine step_app_bks rfl (.tmp 88) (.tmp 90) rfl wx.heap.size (.slice (some ⟨wx.heap.size, 0, none⟩) 0 0) 0 [] rfl HOWQ.out B1 x.Q.length d1 x.Q rfl rfl HBq.out (by have := HLE.out.2.1; omega) (by first | (simp; done) | (simp; omega)) x.Q rfl (by omega) ?_; intro A7 c7 w7 ho7 hg7; have hb7 := HWQ.out w7 (by first | exact hg7 | exact grown_drew hg7 | exact grown_drews hg7); have HO7 := Lib.hid ho7; have HB7 := Lib.hid hb7; have y7' := (HX7.out.2.1.below hb7).cells.2.2.2.2.2.2.2; clear ho7 hg7 hb7)
                | (refine step_app_bks rfl (.tmp 91) (.tmp 93) rfl wx.heap.size (.slice A7 x.Q.length c7) x.Q.length x.Q rfl HO7.out B2 y.Q.length d2 y.Q rfl rfl (HA7.out.2.2.below HB7.out) (by have := HLE.out.2.1; have := HLE.out.2.2; omega) HB7.out.size (x.Q ++ y.Q) rfl (by simp) ?_; intro A8 c8 w8 ho8 hg8; have hb8 := HB7.out.grown (by first | exact hg8 | exact grown_drew hg8 | exact grown_drews hg8) HB7.out.size (fun k hk => (HO7.out.lt k hk).1); have hk8 := own_bk ho8 (all_app HXY.out.ox.wQ HXY.out.oy.wQ) (by have := HLE.out.2.1; have := HLE.out.2.2; rw [List.length_append]; omega); have HB8 := Lib.hid hb8; have HK8 := Lib.hid hk8; clear ho8 hg8 hb8 hk8)
                | (go_simp; go_at_call 49; refine (reftidy_n A8 (x.Q.length + y.Q.length) c8 (x.Q ++ y.Q) _ (by simp) HK8.out (by have := HLE.out.2.1; have := HLE.out.2.2; rw [List.length_append]; omega) HCN.out.2).mono ?_; rintro e w9 ⟨B9, d9, rfl, hB9, hb9, nB9⟩; have HD9 := Lib.hid (HB8.out.trans (Below.mono hb9 HB8.out.size)); have HR9 := Lib.hid (And.intro hB9 (nB9.mono HB8.out.size)); obtain ⟨z0, z1, z2, z3, z4, z5, z6, z7⟩ := (HX7.out.2.2.below HD9.out).cells; obtain ⟨h0, h1, h2, h3, h4, h5, h6, h7⟩ := (HX7.out.2.2.below HD9.out).frozen; have l9 := (HX7.out.2.2.below HD9.out).lt; clear hB9 hb9 nB9; try dsimp only))
              all_goals (go_wp2_with fail)
              all_goals go_meet
              all_goals (with_reducible exact AddCutB.of HX7.out.2.2 ⟨HA7.out.1.1, HN7.out.1, HN7.out.2⟩ HBX7.out HGO.out HR9.out HD9.out)
            case rest =>
              obtain ⟨A9, c9, B9, d9, hz, hA9, nA9, hb⟩ := hcut
              obtain ⟨w8, hw8⟩ : ∃ W, W = wc := ⟨_, rfl⟩
              subst hw8
              have HX8 := Lib.hid (And.intro (HX5.out.2.2.below hb) hz)
              have HB8 := Lib.hid (HB5.out.trans (hb.mono HB5.out.size))
              have HR8 := Lib.hid (And.intro hA9 (And.intro (nA9.1.mono HB5.out.size) (nA9.2.mono HB5.out.size)))
              have HN8 := Lib.hid (And.intro (nA9.1.ne HX5.out.2.2.lt) (nA9.2.ne HX5.out.2.2.lt))
              clear hz hA9 nA9 hb HX7 HA7 HBX7 HN7 HOWQ HWQ HBq x0 x1 x2 x3 x4 x5 x6 x7 y0 y1 y2 y3 y4 y5 y6 y7 l0 l1 l2
              have HMK := Lib.hid (add_lim HXY.out.ox HXY.out.oy HXY.out.s HXY.out.z (by rw [HXM.out]; exact HIS.out) HZC.out.1 HZC.out.2)
              have HRV := Lib.hid (show mAddR x y = ⟨y.k, x.s, x.z, ZV, CV, SV, tidy (x.P ++ y.P), tidy (x.Q ++ y.Q)⟩ from HV.eq (by have h1 := HXY.out.ox.k; have h2 := HXY.out.oy.k; show (if y.k = 0 then x.k else y.k) = y.k; split <;> omega) rfl rfl HZW.out.1 ((addR_ct HXY.out.ox HXY.out.oy).trans HZW.out.2) HXM.out rfl rfl)
              obtain ⟨LP, hLP⟩ : ∃ n, (tidy (x.P ++ y.P)).length = n := ⟨_, rfl⟩
              obtain ⟨LQ, hLQ⟩ : ∃ n, (tidy (x.Q ++ y.Q)).length = n := ⟨_, rfl⟩
              have HLP := Lib.hid (And.intro hLP hLQ)
              have HMM := Lib.hid (show mAddE x y = if 512 < LP ∨ 512 < LQ then 9 else 0 from by rw [← hLP, ← hLQ]; exact HMK.out)
              rw [hLP, hLQ] at HX8
              clear hLP hLQ HMK
              obtain ⟨z0, z1, z2, z3, z4, z5, z6, z7⟩ := HX8.out.2.cells
              have l2 := HX8.out.2.lt
              obtain ⟨r0, r1, r2, r3, r4, r5, r6, r7⟩ := HX8.out.1.cells
              obtain ⟨h0, h1, h2, h3, h4, h5, h6, h7⟩ := HX8.out.1.frozen
              have l3 := HX8.out.1.lt
              have HNE := Lib.hid (show ¬ gO = w.heap.size + 1 + 1 ∧ ¬ w.heap.size + 1 + 1 = gO from by have := HG.out; have := HGO.out; omega)
              have n1 := HNE.out.1
              have n2 := HNE.out.2
              by_cases hp : 512 < LP
              · have dp : (512 : Int) < (LP : Int) := by omega
                have hE : mAddE x y = 9 := by rw [HMM.out, if_pos (.inl hp)]
                clear hp
                have HE := Lib.hid (show ∃ x y, Two a b x y ∧ RetH w (mAddO x y) (mAddE x y) (.returned (.tuple #[.agg #[.int .i64 0, .int .i64 0, .int .i64 0, .int .u64 0, .int .u64 0, .int .i64 0, .slice none 0 0, .slice none 0 0], .int .i64 9])) (set8 w8 (w.heap.size + 1 + 1) (.int .i64 0) (.int .i64 0) (.int .i64 0) (.int .u64 0) (.int .u64 0) (.int .i64 0) (.slice none 0 0) (.slice none 0 0)) from ⟨x, y, HT.out, (RetH.zero (E := 9) (below_set8 HB8.out (by omega : w.heap.size ≤ w.heap.size + 1 + 1) (.int .i64 0) (.int .i64 0) (.int .i64 0) (.int .u64 0) (.int .u64 0) (.int .i64 0) (.slice none 0 0) (.slice none 0 0))).as (by unfold mAddO; rw [hE, if_neg (by decide)]) hE.symm⟩)
                clear hE
                go_wp2_with fail
                exact bodyPost_ret (v := .tuple #[.agg #[.int .i64 0, .int .i64 0, .int .i64 0, .int .u64 0, .int .u64 0, .int .i64 0, .slice none 0 0, .slice none 0 0], .int .i64 9]) (by simp [results, Try.results15, go_sem, r0, r1, r2, r3, r4, r5, r6, r7]) rfl HE.out
              · by_cases hq : 512 < LQ
                · have dp : ¬ (512 : Int) < (LP : Int) := by omega
                  have dq : (512 : Int) < (LQ : Int) := by omega
                  have hE : mAddE x y = 9 := by rw [HMM.out, if_pos (.inr hq)]
                  clear hp hq
                  have HE := Lib.hid (show ∃ x y, Two a b x y ∧ RetH w (mAddO x y) (mAddE x y) (.returned (.tuple #[.agg #[.int .i64 0, .int .i64 0, .int .i64 0, .int .u64 0, .int .u64 0, .int .i64 0, .slice none 0 0, .slice none 0 0], .int .i64 9])) (set8 w8 (w.heap.size + 1 + 1) (.int .i64 0) (.int .i64 0) (.int .i64 0) (.int .u64 0) (.int .u64 0) (.int .i64 0) (.slice none 0 0) (.slice none 0 0)) from ⟨x, y, HT.out, (RetH.zero (E := 9) (below_set8 HB8.out (by omega : w.heap.size ≤ w.heap.size + 1 + 1) (.int .i64 0) (.int .i64 0) (.int .i64 0) (.int .u64 0) (.int .u64 0) (.int .i64 0) (.slice none 0 0) (.slice none 0 0))).as (by unfold mAddO; rw [hE, if_neg (by decide)]) hE.symm⟩)
                  clear hE
                  go_wp2_with fail
                  exact bodyPost_ret (v := .tuple #[.agg #[.int .i64 0, .int .i64 0, .int .i64 0, .int .u64 0, .int .u64 0, .int .i64 0, .slice none 0 0, .slice none 0 0], .int .i64 9]) (by simp [results, Try.results15, go_sem, r0, r1, r2, r3, r4, r5, r6, r7]) rfl HE.out
                · have dp : ¬ (512 : Int) < (LP : Int) := by omega
                  have dq : ¬ (512 : Int) < (LQ : Int) := by omega
                  have hE : mAddE x y = 0 := by rw [HMM.out, if_neg (by omega)]
                  have HEE := Lib.hid hE
                  clear hp hq hE
                  go_wp2_with fail
                  have HB9 := Lib.hid (below_set8 HB8.out (by omega : w.heap.size ≤ w.heap.size + 1 + 1) (.int .i64 y.k) (.int .i64 x.s) (.int .i64 x.z) (.int .u64 ZV) (.int .u64 CV) (.int .i64 SV) (.slice A9 LP c9) (.slice B9 LQ d9))
                  have HE := Lib.hid (show ∃ p q, Two a b p q ∧ RetH w (mAddO p q) (mAddE p q) (.returned (.tuple #[.agg #[.int .i64 y.k, .int .i64 x.s, .int .i64 x.z, .int .u64 ZV, .int .u64 CV, .int .i64 SV, .slice A9 LP c9, .slice B9 LQ d9], .int .i64 0])) (set8 w8 (w.heap.size + 1 + 1) (.int .i64 y.k) (.int .i64 x.s) (.int .i64 x.z) (.int .u64 ZV) (.int .u64 CV) (.int .i64 SV) (.slice A9 LP c9) (.slice B9 LQ d9)) from ⟨x, y, HT.out, by
                    have hO : mAddO x y = ⟨y.k, x.s, x.z, ZV, CV, SV, tidy (x.P ++ y.P), tidy (x.Q ++ y.Q)⟩ := by unfold mAddO; rw [if_pos HEE.out]; exact HRV.out
                    rw [hO, HEE.out]
                    exact ⟨A9, B9, c9, d9, by unfold hvA; simp only [HLP.out.1, HLP.out.2], HR8.out.1.1.set8 HN8.out.1 _ _ _ _ _ _ _ _, HR8.out.1.2.set8 HN8.out.2 _ _ _ _ _ _ _ _, HB9.out, HR8.out.2.1, HR8.out.2.2⟩⟩)
                  have HF := Lib.hid (HX8.out.1.put8 (.int .i64 y.k) (.int .i64 x.s) (.int .i64 x.z) (.int .u64 ZV) (.int .u64 CV) (.int .i64 SV) (.slice A9 LP c9) (.slice B9 LQ d9))
                  clear r0 r1 r2 r3 r4 r5 r6 r7 h0 h1 h2 h3 h4 h5 h6 h7 z0 z1 z2 z3 z4 z5 z6 z7
                  generalize hW : ((((((((w8.setCell ⟨w.heap.size + 1 + 1, 0, none⟩ (.int .i64 y.k)).setCell ⟨w.heap.size + 1 + 1, 1, none⟩ (.int .i64 x.s)).setCell ⟨w.heap.size + 1 + 1, 2, none⟩ (.int .i64 x.z)).setCell ⟨w.heap.size + 1 + 1, 3, none⟩ (.int .u64 ZV)).setCell ⟨w.heap.size + 1 + 1, 4, none⟩ (.int .u64 CV)).setCell ⟨w.heap.size + 1 + 1, 5, none⟩ (.int .i64 SV)).setCell ⟨w.heap.size + 1 + 1, 6, none⟩ (.slice A9 LP c9)).setCell ⟨w.heap.size + 1 + 1, 7, none⟩ (.slice B9 LQ d9)) = w9
                  have hW' : set8 w8 (w.heap.size + 1 + 1) (.int .i64 y.k) (.int .i64 x.s) (.int .i64 x.z) (.int .u64 ZV) (.int .u64 CV) (.int .i64 SV) (.slice A9 LP c9) (.slice B9 LQ d9) = w9 := hW
                  rw [hW'] at HE HF
                  obtain ⟨z0, z1, z2, z3, z4, z5, z6, z7⟩ := HF.out.cells
                  exact bodyPost_ret (v := .tuple #[.agg #[.int .i64 y.k, .int .i64 x.s, .int .i64 x.z, .int .u64 ZV, .int .u64 CV, .int .i64 SV, .slice A9 LP c9, .slice B9 LQ d9], .int .i64 0]) (by simp [results, Try.results15, go_sem, z0, z1, z2, z3, z4, z5, z6, z7]) rfl HE.out
        · go_upto_region 10 with fail
          have hbx := Box.newAt w5 w5.heap.size rfl (.int .i64 x.k) (.int .i64 x.s) (.int .i64 x.z) (.int .u64 ZV) (.int .u64 CV) (.int .i64 SV) (.slice none 0 0) (.slice none 0 0)
          have hb6 : Below w5.heap.size w5 (w5.alloc (.cells #[.int .i64 x.k, .int .i64 x.s, .int .i64 x.z, .int .u64 ZV, .int .u64 CV, .int .i64 SV, .slice none 0 0, .slice none 0 0] 25)) := (Below.refl _ _).alloc (Nat.le_refl _) _
          have HX6 := Lib.hid (And.intro (HX5.out.1.below hb6) (And.intro (HX5.out.2.1.below hb6) hbx))
          have HA6 := Lib.hid (And.intro (And.intro (HA5.out.1.1.below hb6) (HA5.out.1.2.below hb6)) (And.intro (HA5.out.2.1.below hb6) (HA5.out.2.2.below hb6)))
          have HB6 := Lib.hid hb6
          have HG := Lib.hid (show w.heap.size + 1 + 1 < w5.heap.size from l2)
          clear hbx hb6 z0 z1 z2 z3 z4 z5 z6 z7 h0 h1 h2 h3 h4 h5 h6 h7 l2
          clear x0 x1 x2 x3 x4 x5 x6 x7 y0 y1 y2 y3 y4 y5 y6 y7 l0 l1
          obtain ⟨gO, hgO⟩ : ∃ g, g = w5.heap.size := ⟨_, rfl⟩
          have HGO := Lib.hid hgO
          rw [← hgO] at HX6
          rw [← hgO]
          clear hgO
          generalize w5.alloc (.cells #[.int .i64 x.k, .int .i64 x.s, .int .i64 x.z, .int .u64 ZV, .int .u64 CV, .int .i64 SV, .slice none 0 0, .slice none 0 0] 25) = w6 at *
          obtain ⟨x0, x1, x2, x3, x4, x5, x6, x7⟩ := HX6.out.1.cells
          obtain ⟨y0, y1, y2, y3, y4, y5, y6, y7⟩ := HX6.out.2.1.cells
          have l0 := HX6.out.1.lt
          have l1 := HX6.out.2.1.lt
          have l2 := HX6.out.2.2.lt
          have HOWN := Lib.hid (show (w6.alloc (.cells #[] 80)).ownsRow w6.heap.size 80 2 (.slice (some ⟨w6.heap.size, 0, none⟩) 0 0) 0 (cellsL []) from ⟨rfl, .inr ⟨w6.heap.size, 0, #[], rfl, Nat.le_refl _, heap_alloc_new w6 _, by omega, by unfold maxLen; omega, rfl, by simp [cellsL]⟩⟩)
          have HW7 := Lib.hid (fun (w7 : World) (hg : (w6.alloc (.cells #[] 80)).grownBy w7 (some w6.heap.size)) => show Below w6.heap.size w6 w7 from ((Below.refl w6.heap.size w6).alloc (Nat.le_refl _) _).grown hg (by simp) (fun k hk => by injection hk with hk; omega))
          have HBa := Lib.hid (HA6.out.1.1.below ((Below.refl w6.heap.size w6).alloc (Nat.le_refl _) (.cells #[] 80)))
          have HLE := Lib.hid (And.intro (And.intro HXY.out.ox.lP HXY.out.oy.lP) (And.intro HXY.out.ox.lQ HXY.out.oy.lQ))
          have HCN := Lib.hid (show cnt (x.P ++ y.P) ≤ 18446744073709551615 ∧ cnt (x.Q ++ y.Q) ≤ 18446744073709551615 from by
            have hg : (mAddV x y).zc + cnt (x.P ++ y.P) + cnt (x.Q ++ y.Q) = x.ct + y.ct := addR_ct HXY.out.ox HXY.out.oy
            have e1 : (mAddV x y).zc = x.zc + y.zc := rfl
            have n1 := (HXY.out.ox.nP.append HXY.out.oy.nP).cnt
            have n2 := (HXY.out.ox.nQ.append HXY.out.oy.nQ).cnt
            have := HXY.out.ox.zc
            have := HXY.out.oy.zc
            have := HZC.out.2
            constructor <;> omega)
          go_cut [] from 75 to 86 (fun wx => AddCutA w5 w6 gO (.int .i64 x.k) (.int .i64 x.s) (.int .i64 x.z) (.int .u64 ZV) (.int .u64 CV) (.int .i64 SV) (tidy (x.P ++ y.P)) wx)
          case first =>
            go_region_law (first
              | (refine step_app_bks rfl (.tmp 76) (.tmp 78) rfl w6.heap.size (.slice (some ⟨w6.heap.size, 0, none⟩) 0 0) 0 [] rfl HOWN.out A1 x.P.length c1 x.P rfl rfl HBa.out (by have := HLE.out.1.1; omega) (by first | (simp; done) | (simp; omega)) x.P rfl (by omega) ?_; intro A7 c7 w7 ho7 hg7; have hb7 := HW7.out w7 (by first | exact hg7 | exact grown_drew hg7 | exact grown_drews hg7); have HO7 := Lib.hid ho7; have HB7 := Lib.hid hb7; have y6' := (HX6.out.2.1.below hb7).cells.2.2.2.2.2.2.1; clear ho7 hg7 hb7)
              | (refine step_app_bks rfl (.tmp 79) (.tmp 81) rfl w6.heap.size (.slice A7 x.P.length c7) x.P.length x.P rfl HO7.out A2 y.P.length c2 y.P rfl rfl (HA6.out.2.1.below HB7.out) (by have := HLE.out.1.1; have := HLE.out.1.2; omega) HB7.out.size (x.P ++ y.P) rfl (by simp) ?_; intro A8 c8 w8 ho8 hg8; have hb8 := HB7.out.grown (by first | exact hg8 | exact grown_drew hg8 | exact grown_drews hg8) HB7.out.size (fun k hk => (HO7.out.lt k hk).1); have hk8 := own_bk ho8 (all_app HXY.out.ox.wP HXY.out.oy.wP) (by have := HLE.out.1.1; have := HLE.out.1.2; rw [List.length_append]; omega); have HB8 := Lib.hid hb8; have HK8 := Lib.hid hk8; clear ho8 hg8 hb8 hk8)
              | (go_simp; go_at_call 49; refine (reftidy_n A8 (x.P.length + y.P.length) c8 (x.P ++ y.P) _ (by simp) HK8.out (by have := HLE.out.1.1; have := HLE.out.1.2; rw [List.length_append]; omega) HCN.out.1).mono ?_; rintro e w9 ⟨A9, c9, rfl, hA9, hb9, nA9⟩; have HB9 := Lib.hid (HB8.out.trans (Below.mono hb9 HB8.out.size)); have HA9 := Lib.hid (And.intro hA9 (nA9.mono HB8.out.size)); obtain ⟨z0, z1, z2, z3, z4, z5, z6, z7⟩ := (HX6.out.2.2.below HB9.out).cells; obtain ⟨h0, h1, h2, h3, h4, h5, h6, h7⟩ := (HX6.out.2.2.below HB9.out).frozen; have l9 := (HX6.out.2.2.below HB9.out).lt; clear hA9 hb9 nA9; try dsimp only))
            all_goals (go_wp2_with fail)
            all_goals go_meet
            all_goals (with_reducible exact AddCutA.of HX6.out.2.2 HB6.out HGO.out HA9.out HB9.out)
          case rest =>
            obtain ⟨A9, c9, hz, hA9, nA9, hb⟩ := hcut
            obtain ⟨wx, hwx⟩ : ∃ W, W = wc := ⟨_, rfl⟩
            subst hwx
            have HX7 := Lib.hid (And.intro (HX5.out.1.below hb) (And.intro (HX5.out.2.1.below hb) hz))
            have HA7 := Lib.hid (And.intro (And.intro hA9 (HA5.out.1.2.below hb)) (And.intro hA9 (HA5.out.2.2.below hb)))
            have HBX7 := Lib.hid hb
            have HN7 := Lib.hid (And.intro (nA9.mono HB6.out.size) (nA9.ne HX6.out.2.2.lt))
            clear hz hA9 nA9 hb HX6 HA6 HB6 HOWN HW7 HBa x0 x1 x2 x3 x4 x5 x6 x7 y0 y1 y2 y3 y4 y5 y6 y7 l0 l1 l2
            go_upto_region 11 with fail
            obtain ⟨x0, x1, x2, x3, x4, x5, x6, x7⟩ := HX7.out.1.cells
            obtain ⟨y0, y1, y2, y3, y4, y5, y6, y7⟩ := HX7.out.2.1.cells
            have l0 := HX7.out.1.lt
            have l1 := HX7.out.2.1.lt
            have l2 := HX7.out.2.2.lt
            have HOWQ := Lib.hid (show (wx.alloc (.cells #[] 80)).ownsRow wx.heap.size 80 2 (.slice (some ⟨wx.heap.size, 0, none⟩) 0 0) 0 (cellsL []) from ⟨rfl, .inr ⟨wx.heap.size, 0, #[], rfl, Nat.le_refl _, heap_alloc_new wx _, by omega, by unfold maxLen; omega, rfl, by simp [cellsL]⟩⟩)
            have HWQ := Lib.hid (fun (w7 : World) (hg : (wx.alloc (.cells #[] 80)).grownBy w7 (some wx.heap.size)) => show Below wx.heap.size wx w7 from ((Below.refl wx.heap.size wx).alloc (Nat.le_refl _) _).grown hg (by simp) (fun k hk => by injection hk with hk; omega))
            have HBq := Lib.hid (HA7.out.1.2.below ((Below.refl wx.heap.size wx).alloc (Nat.le_refl _) (.cells #[] 80)))
            go_cut [] from 87 to 98 (fun wx => AddCutB w5 gO (.int .i64 x.k) (.int .i64 x.s) (.int .i64 x.z) (.int .u64 ZV) (.int .u64 CV) (.int .i64 SV) (tidy (x.P ++ y.P)) (tidy (x.Q ++ y.Q)) wx)
            case first =>
              go_region_law (first
                | (refine step_app_bks rfl (.tmp 88) (.tmp 90) rfl wx.heap.size (.slice (some ⟨wx.heap.size, 0, none⟩) 0 0) 0 [] rfl HOWQ.out B1 x.Q.length d1 x.Q rfl rfl HBq.out (by have := HLE.out.2.1; omega) (by first | (simp; done) | (simp; omega)) x.Q rfl (by omega) ?_; intro A7 c7 w7 ho7 hg7; have hb7 := HWQ.out w7 (by first | exact hg7 | exact grown_drew hg7 | exact grown_drews hg7); have HO7 := Lib.hid ho7; have HB7 := Lib.hid hb7; have y7' := (HX7.out.2.1.below hb7).cells.2.2.2.2.2.2.2; clear ho7 hg7 hb7)
                | (refine step_app_bks rfl (.tmp 91) (.tmp 93) rfl wx.heap.size (.slice A7 x.Q.length c7) x.Q.length x.Q rfl HO7.out B2 y.Q.length d2 y.Q rfl rfl (HA7.out.2.2.below HB7.out) (by have := HLE.out.2.1; have := HLE.out.2.2; omega) HB7.out.size (x.Q ++ y.Q) rfl (by simp) ?_; intro A8 c8 w8 ho8 hg8; have hb8 := HB7.out.grown (by first | exact hg8 | exact grown_drew hg8 | exact grown_drews hg8) HB7.out.size (fun k hk => (HO7.out.lt k hk).1); have hk8 := own_bk ho8 (all_app HXY.out.ox.wQ HXY.out.oy.wQ) (by have := HLE.out.2.1; have := HLE.out.2.2; rw [List.length_append]; omega); have HB8 := Lib.hid hb8; have HK8 := Lib.hid hk8; clear ho8 hg8 hb8 hk8)
                | (go_simp; go_at_call 49; refine (reftidy_n A8 (x.Q.length + y.Q.length) c8 (x.Q ++ y.Q) _ (by simp) HK8.out (by have := HLE.out.2.1; have := HLE.out.2.2; rw [List.length_append]; omega) HCN.out.2).mono ?_; rintro e w9 ⟨B9, d9, rfl, hB9, hb9, nB9⟩; have HD9 := Lib.hid (HB8.out.trans (Below.mono hb9 HB8.out.size)); have HR9 := Lib.hid (And.intro hB9 (nB9.mono HB8.out.size)); obtain ⟨z0, z1, z2, z3, z4, z5, z6, z7⟩ := (HX7.out.2.2.below HD9.out).cells; obtain ⟨h0, h1, h2, h3, h4, h5, h6, h7⟩ := (HX7.out.2.2.below HD9.out).frozen; have l9 := (HX7.out.2.2.below HD9.out).lt; clear hB9 hb9 nB9; try dsimp only))
              all_goals (go_wp2_with fail)
              all_goals go_meet
              all_goals (with_reducible exact AddCutB.of HX7.out.2.2 ⟨HA7.out.1.1, HN7.out.1, HN7.out.2⟩ HBX7.out HGO.out HR9.out HD9.out)
            case rest =>
              obtain ⟨A9, c9, B9, d9, hz, hA9, nA9, hb⟩ := hcut
              obtain ⟨w8, hw8⟩ : ∃ W, W = wc := ⟨_, rfl⟩
              subst hw8
              have HX8 := Lib.hid (And.intro (HX5.out.2.2.below hb) hz)
              have HB8 := Lib.hid (HB5.out.trans (hb.mono HB5.out.size))
              have HR8 := Lib.hid (And.intro hA9 (And.intro (nA9.1.mono HB5.out.size) (nA9.2.mono HB5.out.size)))
              have HN8 := Lib.hid (And.intro (nA9.1.ne HX5.out.2.2.lt) (nA9.2.ne HX5.out.2.2.lt))
              clear hz hA9 nA9 hb HX7 HA7 HBX7 HN7 HOWQ HWQ HBq x0 x1 x2 x3 x4 x5 x6 x7 y0 y1 y2 y3 y4 y5 y6 y7 l0 l1 l2
              have HMK := Lib.hid (add_lim HXY.out.ox HXY.out.oy HXY.out.s HXY.out.z (by rw [HXM.out]; exact HIS.out) HZC.out.1 HZC.out.2)
              have HRV := Lib.hid (show mAddR x y = ⟨x.k, x.s, x.z, ZV, CV, SV, tidy (x.P ++ y.P), tidy (x.Q ++ y.Q)⟩ from HV.eq (by have h1 := HXY.out.ox.k; have h2 := HXY.out.oy.k; show (if y.k = 0 then x.k else y.k) = x.k; split <;> omega) rfl rfl HZW.out.1 ((addR_ct HXY.out.ox HXY.out.oy).trans HZW.out.2) HXM.out rfl rfl)
              obtain ⟨LP, hLP⟩ : ∃ n, (tidy (x.P ++ y.P)).length = n := ⟨_, rfl⟩
              obtain ⟨LQ, hLQ⟩ : ∃ n, (tidy (x.Q ++ y.Q)).length = n := ⟨_, rfl⟩
              have HLP := Lib.hid (And.intro hLP hLQ)
              have HMM := Lib.hid (show mAddE x y = if 512 < LP ∨ 512 < LQ then 9 else 0 from by rw [← hLP, ← hLQ]; exact HMK.out)
              rw [hLP, hLQ] at HX8
              clear hLP hLQ HMK
              obtain ⟨z0, z1, z2, z3, z4, z5, z6, z7⟩ := HX8.out.2.cells
              have l2 := HX8.out.2.lt
              obtain ⟨r0, r1, r2, r3, r4, r5, r6, r7⟩ := HX8.out.1.cells
              obtain ⟨h0, h1, h2, h3, h4, h5, h6, h7⟩ := HX8.out.1.frozen
              have l3 := HX8.out.1.lt
              have HNE := Lib.hid (show ¬ gO = w.heap.size + 1 + 1 ∧ ¬ w.heap.size + 1 + 1 = gO from by have := HG.out; have := HGO.out; omega)
              have n1 := HNE.out.1
              have n2 := HNE.out.2
              by_cases hp : 512 < LP
              · have dp : (512 : Int) < (LP : Int) := by omega
                have hE : mAddE x y = 9 := by rw [HMM.out, if_pos (.inl hp)]
                clear hp
                have HE := Lib.hid (show ∃ x y, Two a b x y ∧ RetH w (mAddO x y) (mAddE x y) (.returned (.tuple #[.agg #[.int .i64 0, .int .i64 0, .int .i64 0, .int .u64 0, .int .u64 0, .int .i64 0, .slice none 0 0, .slice none 0 0], .int .i64 9])) (set8 w8 (w.heap.size + 1 + 1) (.int .i64 0) (.int .i64 0) (.int .i64 0) (.int .u64 0) (.int .u64 0) (.int .i64 0) (.slice none 0 0) (.slice none 0 0)) from ⟨x, y, HT.out, (RetH.zero (E := 9) (below_set8 HB8.out (by omega : w.heap.size ≤ w.heap.size + 1 + 1) (.int .i64 0) (.int .i64 0) (.int .i64 0) (.int .u64 0) (.int .u64 0) (.int .i64 0) (.slice none 0 0) (.slice none 0 0))).as (by unfold mAddO; rw [hE, if_neg (by decide)]) hE.symm⟩)
                clear hE
                go_wp2_with fail
                exact bodyPost_ret (v := .tuple #[.agg #[.int .i64 0, .int .i64 0, .int .i64 0, .int .u64 0, .int .u64 0, .int .i64 0, .slice none 0 0, .slice none 0 0], .int .i64 9]) (by simp [results, Try.results15, go_sem, r0, r1, r2, r3, r4, r5, r6, r7]) rfl HE.out
              · by_cases hq : 512 < LQ
                · have dp : ¬ (512 : Int) < (LP : Int) := by omega
                  have dq : (512 : Int) < (LQ : Int) := by omega
                  have hE : mAddE x y = 9 := by rw [HMM.out, if_pos (.inr hq)]
                  clear hp hq
                  have HE := Lib.hid (show ∃ x y, Two a b x y ∧ RetH w (mAddO x y) (mAddE x y) (.returned (.tuple #[.agg #[.int .i64 0, .int .i64 0, .int .i64 0, .int .u64 0, .int .u64 0, .int .i64 0, .slice none 0 0, .slice none 0 0], .int .i64 9])) (set8 w8 (w.heap.size + 1 + 1) (.int .i64 0) (.int .i64 0) (.int .i64 0) (.int .u64 0) (.int .u64 0) (.int .i64 0) (.slice none 0 0) (.slice none 0 0)) from ⟨x, y, HT.out, (RetH.zero (E := 9) (below_set8 HB8.out (by omega : w.heap.size ≤ w.heap.size + 1 + 1) (.int .i64 0) (.int .i64 0) (.int .i64 0) (.int .u64 0) (.int .u64 0) (.int .i64 0) (.slice none 0 0) (.slice none 0 0))).as (by unfold mAddO; rw [hE, if_neg (by decide)]) hE.symm⟩)
                  clear hE
                  go_wp2_with fail
                  exact bodyPost_ret (v := .tuple #[.agg #[.int .i64 0, .int .i64 0, .int .i64 0, .int .u64 0, .int .u64 0, .int .i64 0, .slice none 0 0, .slice none 0 0], .int .i64 9]) (by simp [results, Try.results15, go_sem, r0, r1, r2, r3, r4, r5, r6, r7]) rfl HE.out
                · have dp : ¬ (512 : Int) < (LP : Int) := by omega
                  have dq : ¬ (512 : Int) < (LQ : Int) := by omega
                  have hE : mAddE x y = 0 := by rw [HMM.out, if_neg (by omega)]
                  have HEE := Lib.hid hE
                  clear hp hq hE
                  go_wp2_with fail
                  have HB9 := Lib.hid (below_set8 HB8.out (by omega : w.heap.size ≤ w.heap.size + 1 + 1) (.int .i64 x.k) (.int .i64 x.s) (.int .i64 x.z) (.int .u64 ZV) (.int .u64 CV) (.int .i64 SV) (.slice A9 LP c9) (.slice B9 LQ d9))
                  have HE := Lib.hid (show ∃ p q, Two a b p q ∧ RetH w (mAddO p q) (mAddE p q) (.returned (.tuple #[.agg #[.int .i64 x.k, .int .i64 x.s, .int .i64 x.z, .int .u64 ZV, .int .u64 CV, .int .i64 SV, .slice A9 LP c9, .slice B9 LQ d9], .int .i64 0])) (set8 w8 (w.heap.size + 1 + 1) (.int .i64 x.k) (.int .i64 x.s) (.int .i64 x.z) (.int .u64 ZV) (.int .u64 CV) (.int .i64 SV) (.slice A9 LP c9) (.slice B9 LQ d9)) from ⟨x, y, HT.out, by
                    have hO : mAddO x y = ⟨x.k, x.s, x.z, ZV, CV, SV, tidy (x.P ++ y.P), tidy (x.Q ++ y.Q)⟩ := by unfold mAddO; rw [if_pos HEE.out]; exact HRV.out
                    rw [hO, HEE.out]
                    exact ⟨A9, B9, c9, d9, by unfold hvA; simp only [HLP.out.1, HLP.out.2], HR8.out.1.1.set8 HN8.out.1 _ _ _ _ _ _ _ _, HR8.out.1.2.set8 HN8.out.2 _ _ _ _ _ _ _ _, HB9.out, HR8.out.2.1, HR8.out.2.2⟩⟩)
                  have HF := Lib.hid (HX8.out.1.put8 (.int .i64 x.k) (.int .i64 x.s) (.int .i64 x.z) (.int .u64 ZV) (.int .u64 CV) (.int .i64 SV) (.slice A9 LP c9) (.slice B9 LQ d9))
                  clear r0 r1 r2 r3 r4 r5 r6 r7 h0 h1 h2 h3 h4 h5 h6 h7 z0 z1 z2 z3 z4 z5 z6 z7
                  generalize hW : ((((((((w8.setCell ⟨w.heap.size + 1 + 1, 0, none⟩ (.int .i64 x.k)).setCell ⟨w.heap.size + 1 + 1, 1, none⟩ (.int .i64 x.s)).setCell ⟨w.heap.size + 1 + 1, 2, none⟩ (.int .i64 x.z)).setCell ⟨w.heap.size + 1 + 1, 3, none⟩ (.int .u64 ZV)).setCell ⟨w.heap.size + 1 + 1, 4, none⟩ (.int .u64 CV)).setCell ⟨w.heap.size + 1 + 1, 5, none⟩ (.int .i64 SV)).setCell ⟨w.heap.size + 1 + 1, 6, none⟩ (.slice A9 LP c9)).setCell ⟨w.heap.size + 1 + 1, 7, none⟩ (.slice B9 LQ d9)) = w9
                  have hW' : set8 w8 (w.heap.size + 1 + 1) (.int .i64 x.k) (.int .i64 x.s) (.int .i64 x.z) (.int .u64 ZV) (.int .u64 CV) (.int .i64 SV) (.slice A9 LP c9) (.slice B9 LQ d9) = w9 := hW
                  rw [hW'] at HE HF
                  obtain ⟨z0, z1, z2, z3, z4, z5, z6, z7⟩ := HF.out.cells
                  exact bodyPost_ret (v := .tuple #[.agg #[.int .i64 x.k, .int .i64 x.s, .int .i64 x.z, .int .u64 ZV, .int .u64 CV, .int .i64 SV, .slice A9 LP c9, .slice B9 LQ d9], .int .i64 0]) (by simp [results, Try.results15, go_sem, z0, z1, z2, z3, z4, z5, z6, z7]) rfl HE.out
      · obtain rfl : CV = 0 := by have h := HCV.out.1; rw [if_neg hc] at h; exact h.symm
        obtain rfl : CE = 5 := by have h := HCV.out.2; rw [if_neg hc] at h; exact h.symm
        have hE : mAddE x y = 5 := by
          have hg : (mAddV x y).zc + cnt (x.P ++ y.P) + cnt (x.Q ++ y.Q) = x.ct + y.ct := addR_ct HXY.out.ox HXY.out.oy
          unfold mAddE
          rw [if_neg (by omega), HXM.out, if_pos HIS.out]
          unfold mkE
          rw [if_pos (by omega)]
        clear hz hc
        have HE := Lib.hid (show ∃ x y, Two a b x y ∧ RetH w (mAddO x y) (mAddE x y) (.returned (.tuple #[.agg #[.int .i64 0, .int .i64 0, .int .i64 0, .int .u64 0, .int .u64 0, .int .i64 0, .slice none 0 0, .slice none 0 0], .int .i64 5])) (set8 w5 (w.heap.size + 1 + 1) (.int .i64 0) (.int .i64 0) (.int .i64 0) (.int .u64 0) (.int .u64 0) (.int .i64 0) (.slice none 0 0) (.slice none 0 0)) from ⟨x, y, HT.out, (RetH.zero (E := 5) (below_set8 HB5.out (by omega : w.heap.size ≤ w.heap.size + 1 + 1) (.int .i64 0) (.int .i64 0) (.int .i64 0) (.int .u64 0) (.int .u64 0) (.int .i64 0) (.slice none 0 0) (.slice none 0 0))).as (by unfold mAddO; rw [hE, if_neg (by decide)]) hE.symm⟩)
        clear hE
        obtain ⟨z0, z1, z2, z3, z4, z5, z6, z7⟩ := HX5.out.2.2.cells
        obtain ⟨h0, h1, h2, h3, h4, h5, h6, h7⟩ := HX5.out.2.2.frozen
        have l2 := HX5.out.2.2.lt
        go_wp2_with fail
        exact bodyPost_ret (v := .tuple #[.agg #[.int .i64 0, .int .i64 0, .int .i64 0, .int .u64 0, .int .u64 0, .int .i64 0, .slice none 0 0, .slice none 0 0], .int .i64 5]) (by simp [results, Try.results15, go_sem, z0, z1, z2, z3, z4, z5, z6, z7]) rfl HE.out
    · obtain rfl : ZV = 0 := by have h := HZV.out.1; rw [if_neg hz] at h; exact h.symm
      obtain rfl : ZE = 5 := by have h := HZV.out.2; rw [if_neg hz] at h; exact h.symm
      have hE : mAddE x y = 5 := by
        unfold mAddE
        rw [if_pos (by omega)]
      clear hz
      have HE := Lib.hid (show ∃ x y, Two a b x y ∧ RetH w (mAddO x y) (mAddE x y) (.returned (.tuple #[.agg #[.int .i64 0, .int .i64 0, .int .i64 0, .int .u64 0, .int .u64 0, .int .i64 0, .slice none 0 0, .slice none 0 0], .int .i64 5])) (set8 w5 (w.heap.size + 1 + 1) (.int .i64 0) (.int .i64 0) (.int .i64 0) (.int .u64 0) (.int .u64 0) (.int .i64 0) (.slice none 0 0) (.slice none 0 0)) from ⟨x, y, HT.out, (RetH.zero (E := 5) (below_set8 HB5.out (by omega : w.heap.size ≤ w.heap.size + 1 + 1) (.int .i64 0) (.int .i64 0) (.int .i64 0) (.int .u64 0) (.int .u64 0) (.int .i64 0) (.slice none 0 0) (.slice none 0 0))).as (by unfold mAddO; rw [hE, if_neg (by decide)]) hE.symm⟩)
      clear hE
      obtain ⟨z0, z1, z2, z3, z4, z5, z6, z7⟩ := HX5.out.2.2.cells
      obtain ⟨h0, h1, h2, h3, h4, h5, h6, h7⟩ := HX5.out.2.2.frozen
      have l2 := HX5.out.2.2.lt
      go_wp2_with fail
      exact bodyPost_ret (v := .tuple #[.agg #[.int .i64 0, .int .i64 0, .int .i64 0, .int .u64 0, .int .u64 0, .int .i64 0, .slice none 0 0, .slice none 0 0], .int .i64 5]) (by simp [results, Try.results15, go_sem, z0, z1, z2, z3, z4, z5, z6, z7]) rfl HE.out
  · obtain rfl : SE = 5 := by rw [← HSV.out.2]; exact (int_over hi).2
    have hE : mAddE x y = 5 := by
      unfold mAddE
      by_cases hz : 18446744073709551615 < x.zc + y.zc
      · rw [if_pos hz]
      · rw [if_neg hz, HXM.out, if_neg hi]
    clear hi
    have HE := Lib.hid (show ∃ x y, Two a b x y ∧ RetH w (mAddO x y) (mAddE x y) (.returned (.tuple #[.agg #[.int .i64 0, .int .i64 0, .int .i64 0, .int .u64 0, .int .u64 0, .int .i64 0, .slice none 0 0, .slice none 0 0], .int .i64 5])) (set8 w5 (w.heap.size + 1 + 1) (.int .i64 0) (.int .i64 0) (.int .i64 0) (.int .u64 0) (.int .u64 0) (.int .i64 0) (.slice none 0 0) (.slice none 0 0)) from ⟨x, y, HT.out, (RetH.zero (E := 5) (below_set8 HB5.out (by omega : w.heap.size ≤ w.heap.size + 1 + 1) (.int .i64 0) (.int .i64 0) (.int .i64 0) (.int .u64 0) (.int .u64 0) (.int .i64 0) (.slice none 0 0) (.slice none 0 0))).as (by unfold mAddO; rw [hE, if_neg (by decide)]) hE.symm⟩)
    clear hE
    obtain ⟨z0, z1, z2, z3, z4, z5, z6, z7⟩ := HX5.out.2.2.cells
    obtain ⟨h0, h1, h2, h3, h4, h5, h6, h7⟩ := HX5.out.2.2.frozen
    have l2 := HX5.out.2.2.lt
    go_wp2_with fail
    exact bodyPost_ret (v := .tuple #[.agg #[.int .i64 0, .int .i64 0, .int .i64 0, .int .u64 0, .int .u64 0, .int .i64 0, .slice none 0 0, .slice none 0 0], .int .i64 5]) (by simp [results, Try.results15, go_sem, z0, z1, z2, z3, z4, z5, z6, z7]) rfl HE.out
end Go.Proofs.Ytbibhjcmdehdbaa
