/- The document's Sub. -/
import Derived.Test.YtbibhjcmdehdbaaRfH
import Derived.Test.YtbibhjcmdehdbaaMdX
/-! The law MeldDowns. -/
/-! The document's Alike. -/
namespace Go.Proofs.Ytbibhjcmdehdbaa
open Go.RowKit Go.Sort Go.Maps
set_option linter.unusedVariables false

/-- two histograms are returned -/
def RetP (w : World) (r q : HV) (e : Ending) (w' : World) : Prop :=
  ∃ (A B A' B' : Option Addr) (c d c' d' : Nat), e = .returned (.tuple #[hvA r A B c d, hvA q A' B' c' d']) ∧ (Bk w' A r.P ∧ Bk w' B r.Q ∧ Bk w' A' q.P ∧ Bk w' B' q.Q) ∧ Below w.heap.size w w' ∧ NewA w A ∧ NewA w B ∧ NewA w A' ∧ NewA w B'
/-- the two boxes, and those of the results -/
structure Two4 (w w0 : World) (x y : HV) (A1 B1 A2 B2 : Option Addr) (c1 d1 c2 d2 : Nat) (wr : World) : Prop where
  X : Box wr (w.heap.size) (.int .i64 x.k) (.int .i64 x.s) (.int .i64 x.z) (.int .u64 x.zc) (.int .u64 x.ct) (.int .i64 x.sm) (.slice A1 x.P.length c1) (.slice B1 x.Q.length d1)
  Y : Box wr (w.heap.size + 1) (.int .i64 y.k) (.int .i64 y.s) (.int .i64 y.z) (.int .u64 y.zc) (.int .u64 y.ct) (.int .i64 y.sm) (.slice A2 y.P.length c2) (.slice B2 y.Q.length d2)
  Z : Box wr (w.heap.size + 1 + 1) (.int .i64 0) (.int .i64 0) (.int .i64 0) (.int .u64 0) (.int .u64 0) (.int .i64 0) (.slice none 0 0) (.slice none 0 0)
  V : Box wr (w.heap.size + 1 + 1 + 1) (.int .i64 0) (.int .i64 0) (.int .i64 0) (.int .u64 0) (.int .u64 0) (.int .i64 0) (.slice none 0 0) (.slice none 0 0)
  hA : Bk wr A1 x.P
  hB : Bk wr B1 x.Q
  hA' : Bk wr A2 y.P
  hB' : Bk wr B2 y.Q
  sz : w0.heap.size ≤ wr.heap.size
  b : Below w.heap.size w wr
theorem Two4.below {w w0 : World} {x y : HV} {A1 B1 A2 B2 : Option Addr} {c1 d1 c2 d2 : Nat} {wr wr' : World} (h : Two4 w w0 x y A1 B1 A2 B2 c1 d1 c2 d2 wr) (hb : Below wr.heap.size wr wr') : Two4 w w0 x y A1 B1 A2 B2 c1 d1 c2 d2 wr' :=
  ⟨h.X.below hb, h.Y.below hb, h.Z.below hb, h.V.below hb, h.hA.below hb, h.hB.below hb, h.hA'.below hb, h.hB'.below hb, Nat.le_trans h.sz hb.size, h.b.trans (hb.mono h.b.size)⟩
theorem Two4.setX {w w0 : World} {x y r : HV} {A1 B1 A2 B2 A3 B3 : Option Addr} {c1 d1 c2 d2 c3 d3 : Nat} {wr : World} (h : Two4 w w0 x y A1 B1 A2 B2 c1 d1 c2 d2 wr) (hA3 : Bk wr A3 r.P) (hB3 : Bk wr B3 r.Q) (n3 : r.P.length = 0 ∨ ∀ a, A3 = some a → a.block ≠ w.heap.size) (m3 : r.Q.length = 0 ∨ ∀ a, B3 = some a → a.block ≠ w.heap.size) (n2 : y.P.length = 0 ∨ ∀ a, A2 = some a → a.block ≠ w.heap.size) (m2 : y.Q.length = 0 ∨ ∀ a, B2 = some a → a.block ≠ w.heap.size) :
    Two4 w w0 r y A3 B3 A2 B2 c3 d3 c2 d2 (set8 wr w.heap.size (.int .i64 r.k) (.int .i64 r.s) (.int .i64 r.z) (.int .u64 r.zc) (.int .u64 r.ct) (.int .i64 r.sm) (.slice A3 r.P.length c3) (.slice B3 r.Q.length d3)) :=
  ⟨h.X.put8 _ _ _ _ _ _ _ _, h.Y.off8 (by omega) _ _ _ _ _ _ _ _, h.Z.off8 (by omega) _ _ _ _ _ _ _ _, h.V.off8 (by omega) _ _ _ _ _ _ _ _, hA3.set8n n3 _ _ _ _ _ _ _ _, hB3.set8n m3 _ _ _ _ _ _ _ _, h.hA'.set8n n2 _ _ _ _ _ _ _ _, h.hB'.set8n m2 _ _ _ _ _ _ _ _, by rw [size_set8]; exact h.sz, below_set8 h.b (Nat.le_refl _) _ _ _ _ _ _ _ _⟩
theorem Two4.setY {w w0 : World} {x y r : HV} {A1 B1 A2 B2 A3 B3 : Option Addr} {c1 d1 c2 d2 c3 d3 : Nat} {wr : World} (h : Two4 w w0 x y A1 B1 A2 B2 c1 d1 c2 d2 wr) (hA3 : Bk wr A3 r.P) (hB3 : Bk wr B3 r.Q) (n3 : r.P.length = 0 ∨ ∀ a, A3 = some a → a.block ≠ w.heap.size + 1) (m3 : r.Q.length = 0 ∨ ∀ a, B3 = some a → a.block ≠ w.heap.size + 1) (n2 : x.P.length = 0 ∨ ∀ a, A1 = some a → a.block ≠ w.heap.size + 1) (m2 : x.Q.length = 0 ∨ ∀ a, B1 = some a → a.block ≠ w.heap.size + 1) :
    Two4 w w0 x r A1 B1 A3 B3 c1 d1 c3 d3 (set8 wr (w.heap.size + 1) (.int .i64 r.k) (.int .i64 r.s) (.int .i64 r.z) (.int .u64 r.zc) (.int .u64 r.ct) (.int .i64 r.sm) (.slice A3 r.P.length c3) (.slice B3 r.Q.length d3)) :=
  ⟨h.X.off8 (by omega) _ _ _ _ _ _ _ _, h.Y.put8 _ _ _ _ _ _ _ _, h.Z.off8 (by omega) _ _ _ _ _ _ _ _, h.V.off8 (by omega) _ _ _ _ _ _ _ _, h.hA.set8n n2 _ _ _ _ _ _ _ _, h.hB.set8n m2 _ _ _ _ _ _ _ _, hA3.set8n n3 _ _ _ _ _ _ _ _, hB3.set8n m3 _ _ _ _ _ _ _ _, by rw [size_set8]; exact h.sz, below_set8 h.b (by omega) _ _ _ _ _ _ _ _⟩
/-- between the rounds -/
def RkRel (w w0 : World) (a0 b0 : HV) (wr : World) : Prop :=
  ∃ (x y : HV) (A1 B1 A2 B2 : Option Addr) (c1 d1 c2 d2 : Nat), Two4 w w0 x y A1 B1 A2 B2 c1 d1 c2 d2 wr ∧ ((NewA w0 A1 ∧ NewA w0 B1) ∧ (NewA w0 A2 ∧ NewA w0 B2)) ∧ (Ok x ∧ Ok y) ∧ (∀ p q, Alk x y p q → Alk a0 b0 p q)
theorem RetP.drew {w : World} {r q : HV} {e : Ending} {w' : World} (h : RetP w r q e w') : RetP w r q e w'.drew := by
  obtain ⟨A, B, A', B', c, d, c', d', he, ⟨h1, h2, h3, h4⟩, hb, hn⟩ := h
  exact ⟨A, B, A', B', c, d, c', d', he, ⟨h1, h2, h3, h4⟩, Below.drew hb, hn⟩
set_option maxHeartbeats 4000000 in
set_option maxRecDepth 100000 in
theorem refalike_any (a b : HV) (A B A' B' : Option Addr) (c d c' d' : Nat) (w : World) (hP : Bk w A a.P) (hQ : Bk w B a.Q) (hP' : Bk w A' b.P) (hQ' : Bk w B' b.Q) (oa : Ok a) (ob : Ok b) (a0 b0 : HV) (ha0 : downF a (min a.s b.s) = a0) (hb0' : downF b (min a.s b.s) = b0) :
    Calls Try.prog 47 #[.agg #[.int .i64 a.k, .int .i64 a.s, .int .i64 a.z, .int .u64 a.zc, .int .u64 a.ct, .int .i64 a.sm, .slice A a.P.length c, .slice B a.Q.length d], .agg #[.int .i64 b.k, .int .i64 b.s, .int .i64 b.z, .int .u64 b.zc, .int .u64 b.ct, .int .i64 b.sm, .slice A' b.P.length c', .slice B' b.Q.length d']] w fun e w' => ∃ x y, Alk a0 b0 x y ∧ RetP w x y e w' := by
  have HO := Lib.hid (And.intro oa ob)
  have HD := Lib.hid (And.intro ha0 hb0')
  have HKw := Lib.hid (And.intro (And.intro hP hQ) (And.intro hP' hQ'))
  have bx0 := (((Box.new w (.int .i64 a.k) (.int .i64 a.s) (.int .i64 a.z) (.int .u64 a.zc) (.int .u64 a.ct) (.int .i64 a.sm) (.slice A a.P.length c) (.slice B a.Q.length d)).alloc (.cells #[.int .i64 b.k, .int .i64 b.s, .int .i64 b.z, .int .u64 b.zc, .int .u64 b.ct, .int .i64 b.sm, .slice A' b.P.length c', .slice B' b.Q.length d'] 25)).alloc (.cells #[.int .i64 0, .int .i64 0, .int .i64 0, .int .u64 0, .int .u64 0, .int .i64 0, .slice none 0 0, .slice none 0 0] 25)).alloc (.cells #[.int .i64 0, .int .i64 0, .int .i64 0, .int .u64 0, .int .u64 0, .int .i64 0, .slice none 0 0, .slice none 0 0] 25)
  have bx1 := ((Box.newAt (w.alloc (.cells #[.int .i64 a.k, .int .i64 a.s, .int .i64 a.z, .int .u64 a.zc, .int .u64 a.ct, .int .i64 a.sm, .slice A a.P.length c, .slice B a.Q.length d] 25)) (w.heap.size + 1) (by simp) (.int .i64 b.k) (.int .i64 b.s) (.int .i64 b.z) (.int .u64 b.zc) (.int .u64 b.ct) (.int .i64 b.sm) (.slice A' b.P.length c') (.slice B' b.Q.length d')).alloc (.cells #[.int .i64 0, .int .i64 0, .int .i64 0, .int .u64 0, .int .u64 0, .int .i64 0, .slice none 0 0, .slice none 0 0] 25)).alloc (.cells #[.int .i64 0, .int .i64 0, .int .i64 0, .int .u64 0, .int .u64 0, .int .i64 0, .slice none 0 0, .slice none 0 0] 25)
  have bx2 := (Box.newAt ((w.alloc (.cells #[.int .i64 a.k, .int .i64 a.s, .int .i64 a.z, .int .u64 a.zc, .int .u64 a.ct, .int .i64 a.sm, .slice A a.P.length c, .slice B a.Q.length d] 25)).alloc (.cells #[.int .i64 b.k, .int .i64 b.s, .int .i64 b.z, .int .u64 b.zc, .int .u64 b.ct, .int .i64 b.sm, .slice A' b.P.length c', .slice B' b.Q.length d'] 25)) (w.heap.size + 1 + 1) (by simp) (.int .i64 0) (.int .i64 0) (.int .i64 0) (.int .u64 0) (.int .u64 0) (.int .i64 0) (.slice none 0 0) (.slice none 0 0)).alloc (.cells #[.int .i64 0, .int .i64 0, .int .i64 0, .int .u64 0, .int .u64 0, .int .i64 0, .slice none 0 0, .slice none 0 0] 25)
  have bx3 := Box.newAt (((w.alloc (.cells #[.int .i64 a.k, .int .i64 a.s, .int .i64 a.z, .int .u64 a.zc, .int .u64 a.ct, .int .i64 a.sm, .slice A a.P.length c, .slice B a.Q.length d] 25)).alloc (.cells #[.int .i64 b.k, .int .i64 b.s, .int .i64 b.z, .int .u64 b.zc, .int .u64 b.ct, .int .i64 b.sm, .slice A' b.P.length c', .slice B' b.Q.length d'] 25)).alloc (.cells #[.int .i64 0, .int .i64 0, .int .i64 0, .int .u64 0, .int .u64 0, .int .i64 0, .slice none 0 0, .slice none 0 0] 25)) (w.heap.size + 1 + 1 + 1) (by simp) (.int .i64 0) (.int .i64 0) (.int .i64 0) (.int .u64 0) (.int .u64 0) (.int .i64 0) (.slice none 0 0) (.slice none 0 0)
  have hb := ((((Below.refl w.heap.size w).alloc (Nat.le_refl _) (.cells #[.int .i64 a.k, .int .i64 a.s, .int .i64 a.z, .int .u64 a.zc, .int .u64 a.ct, .int .i64 a.sm, .slice A a.P.length c, .slice B a.Q.length d] 25)).alloc (by simp) (.cells #[.int .i64 b.k, .int .i64 b.s, .int .i64 b.z, .int .u64 b.zc, .int .u64 b.ct, .int .i64 b.sm, .slice A' b.P.length c', .slice B' b.Q.length d'] 25)).alloc (by simp; omega) (.cells #[.int .i64 0, .int .i64 0, .int .i64 0, .int .u64 0, .int .u64 0, .int .i64 0, .slice none 0 0, .slice none 0 0] 25)).alloc (by simp; omega) (.cells #[.int .i64 0, .int .i64 0, .int .i64 0, .int .u64 0, .int .u64 0, .int .i64 0, .slice none 0 0, .slice none 0 0] 25)
  have HT0 := Lib.hid (show Two4 w ((((w.alloc (.cells #[.int .i64 a.k, .int .i64 a.s, .int .i64 a.z, .int .u64 a.zc, .int .u64 a.ct, .int .i64 a.sm, .slice A a.P.length c, .slice B a.Q.length d] 25)).alloc (.cells #[.int .i64 b.k, .int .i64 b.s, .int .i64 b.z, .int .u64 b.zc, .int .u64 b.ct, .int .i64 b.sm, .slice A' b.P.length c', .slice B' b.Q.length d'] 25)).alloc (.cells #[.int .i64 0, .int .i64 0, .int .i64 0, .int .u64 0, .int .u64 0, .int .i64 0, .slice none 0 0, .slice none 0 0] 25)).alloc (.cells #[.int .i64 0, .int .i64 0, .int .i64 0, .int .u64 0, .int .u64 0, .int .i64 0, .slice none 0 0, .slice none 0 0] 25)) a b A B A' B' c d c' d' ((((w.alloc (.cells #[.int .i64 a.k, .int .i64 a.s, .int .i64 a.z, .int .u64 a.zc, .int .u64 a.ct, .int .i64 a.sm, .slice A a.P.length c, .slice B a.Q.length d] 25)).alloc (.cells #[.int .i64 b.k, .int .i64 b.s, .int .i64 b.z, .int .u64 b.zc, .int .u64 b.ct, .int .i64 b.sm, .slice A' b.P.length c', .slice B' b.Q.length d'] 25)).alloc (.cells #[.int .i64 0, .int .i64 0, .int .i64 0, .int .u64 0, .int .u64 0, .int .i64 0, .slice none 0 0, .slice none 0 0] 25)).alloc (.cells #[.int .i64 0, .int .i64 0, .int .i64 0, .int .u64 0, .int .u64 0, .int .i64 0, .slice none 0 0, .slice none 0 0] 25)) from ⟨bx0, bx1, bx2, bx3, hP.below hb, hQ.below hb, hP'.below hb, hQ'.below hb, Nat.le_refl _, hb⟩)
  have HBs := Lib.hid hb.size
  clear hP hQ hP' hQ' oa ob ha0 hb0' bx0 bx1 bx2 bx3 hb
  go_enter Try.func47, Try.ntmps47
  by_cases hlt : a.s < b.s
  · skip
    have d1 : decide (a.s < b.s) = true := by simpa using hlt
    have hm : min a.s b.s = a.s := by omega
    have HM := Lib.hid hm
    have HRr := Lib.hid (And.intro HO.out.1.s HO.out.2.s)
    have hle : a.s ≤ b.s := by omega
    have HLe := Lib.hid hle
    clear hlt hm hle
    obtain ⟨x0, x1, x2, x3, x4, x5, x6, x7⟩ := HT0.out.X.cells
    obtain ⟨y0, y1, y2, y3, y4, y5, y6, y7⟩ := HT0.out.Y.cells
    have l0 := HT0.out.X.lt
    have l1 := HT0.out.Y.lt
    go_wp2_with fail
    clear x0 x1 x2 x3 x4 x5 x6 x7 y0 y1 y2 y3 y4 y5 y6 y7 l0 l1
    generalize ((((w.alloc (.cells #[.int .i64 a.k, .int .i64 a.s, .int .i64 a.z, .int .u64 a.zc, .int .u64 a.ct, .int .i64 a.sm, .slice A a.P.length c, .slice B a.Q.length d] 25)).alloc (.cells #[.int .i64 b.k, .int .i64 b.s, .int .i64 b.z, .int .u64 b.zc, .int .u64 b.ct, .int .i64 b.sm, .slice A' b.P.length c', .slice B' b.Q.length d'] 25)).alloc (.cells #[.int .i64 0, .int .i64 0, .int .i64 0, .int .u64 0, .int .u64 0, .int .i64 0, .slice none 0 0, .slice none 0 0] 25)).alloc (.cells #[.int .i64 0, .int .i64 0, .int .i64 0, .int .u64 0, .int .u64 0, .int .i64 0, .slice none 0 0, .slice none 0 0] 25)) = w0 at *
    have hd := refdown_any b a.s A' B' c' d' w0 HT0.out.hA' HT0.out.hB' HO.out.2
    refine hd.mono ?_
    intro e w1 hR
    obtain ⟨A4, B4, c4, d4, rfl, hA, hB, hb, nA, nB⟩ := hR.as (show downO b a.s = b0 by unfold downO downE; rw [if_pos (by rw [if_pos ⟨HRr.out.1, HLe.out⟩]), ← HM.out]; exact HD.out.2) (show downE b.s a.s = 0 by unfold downE; rw [if_pos ⟨HRr.out.1, HLe.out⟩])
    have HS0 := Lib.hid (And.intro HT0.out.X.lt (And.intro HT0.out.Y.lt (And.intro HT0.out.Z.lt HT0.out.V.lt)))
    have HN4 := Lib.hid (And.intro nA nB)
    have HT1 := Lib.hid (HT0.out.below hb)
    have HAB := Lib.hid (And.intro hA hB)
    clear hd hR hA hB hb nA nB HT0
    obtain ⟨x0, x1, x2, x3, x4, x5, x6, x7⟩ := HT1.out.X.cells
    obtain ⟨y0, y1, y2, y3, y4, y5, y6, y7⟩ := HT1.out.Y.cells
    have l0 := HT1.out.X.lt
    have l1 := HT1.out.Y.lt
    obtain ⟨f0, f1, f2, f3, f4, f5, f6, f7⟩ := HT1.out.Y.frozen
    simp only [hvA]
    go_wp2_with fail
    clear x0 x1 x2 x3 x4 x5 x6 x7 y0 y1 y2 y3 y4 y5 y6 y7 l0 l1 f0 f1 f2 f3 f4 f5 f6 f7
    have HT2 := Lib.hid (HT1.out.setY (c3 := c4) (d3 := d4) HAB.out.1 HAB.out.2 (.inr (HN4.out.1.ne HS0.out.2.1)) (.inr (HN4.out.2.ne HS0.out.2.1)) (HKw.out.1.1.ne_lt (by omega)) (HKw.out.1.2.ne_lt (by omega)))
    generalize hW : ((((((((w1.setCell ⟨w.heap.size + 1, 0, none⟩ (.int .i64 b0.k)).setCell ⟨w.heap.size + 1, 1, none⟩ (.int .i64 b0.s)).setCell ⟨w.heap.size + 1, 2, none⟩ (.int .i64 b0.z)).setCell ⟨w.heap.size + 1, 3, none⟩ (.int .u64 b0.zc)).setCell ⟨w.heap.size + 1, 4, none⟩ (.int .u64 b0.ct)).setCell ⟨w.heap.size + 1, 5, none⟩ (.int .i64 b0.sm)).setCell ⟨w.heap.size + 1, 6, none⟩ (.slice A4 b0.P.length c4)).setCell ⟨w.heap.size + 1, 7, none⟩ (.slice B4 b0.Q.length d4)) = w2
    have hW' : set8 w1 (w.heap.size + 1) (.int .i64 b0.k) (.int .i64 b0.s) (.int .i64 b0.z) (.int .u64 b0.zc) (.int .u64 b0.ct) (.int .i64 b0.sm) (.slice A4 b0.P.length c4) (.slice B4 b0.Q.length d4) = w2 := hW
    rw [hW'] at HT2
    clear hW hW' HT1 HAB
    have hd := refdown_any a a.s A B c d w2 HT2.out.hA HT2.out.hB HO.out.1
    refine hd.mono ?_
    intro e w3 hR
    obtain ⟨A3, B3, c3, d3, rfl, hA, hB, hb, nA, nB⟩ := hR.as (show downO a a.s = a0 by unfold downO downE; rw [if_pos (by rw [if_pos ⟨HRr.out.1, Int.le_refl _⟩])]; have h := HD.out.1; rw [HM.out] at h; exact h) (show downE a.s a.s = 0 by unfold downE; rw [if_pos ⟨HRr.out.1, Int.le_refl _⟩])
    have HN3 := Lib.hid (And.intro (nA.mono HT2.out.sz) (nB.mono HT2.out.sz))
    have HT3 := Lib.hid (HT2.out.below hb)
    have HAB := Lib.hid (And.intro hA hB)
    clear hd hR hA hB hb nA nB HT2
    obtain ⟨x0, x1, x2, x3, x4, x5, x6, x7⟩ := HT3.out.X.cells
    obtain ⟨y0, y1, y2, y3, y4, y5, y6, y7⟩ := HT3.out.Y.cells
    have l0 := HT3.out.X.lt
    have l1 := HT3.out.Y.lt
    obtain ⟨f0, f1, f2, f3, f4, f5, f6, f7⟩ := HT3.out.X.frozen
    simp only [hvA]
    go_wp2_with fail
    clear x0 x1 x2 x3 x4 x5 x6 x7 y0 y1 y2 y3 y4 y5 y6 y7 l0 l1 f0 f1 f2 f3 f4 f5 f6 f7
    have HT4 := Lib.hid (HT3.out.setX (c3 := c3) (d3 := d3) HAB.out.1 HAB.out.2 (.inr (HN3.out.1.ne HS0.out.1)) (.inr (HN3.out.2.ne HS0.out.1)) (.inr (HN4.out.1.ne HS0.out.1)) (.inr (HN4.out.2.ne HS0.out.1)))
    generalize hW : ((((((((w3.setCell ⟨w.heap.size, 0, none⟩ (.int .i64 a0.k)).setCell ⟨w.heap.size, 1, none⟩ (.int .i64 a0.s)).setCell ⟨w.heap.size, 2, none⟩ (.int .i64 a0.z)).setCell ⟨w.heap.size, 3, none⟩ (.int .u64 a0.zc)).setCell ⟨w.heap.size, 4, none⟩ (.int .u64 a0.ct)).setCell ⟨w.heap.size, 5, none⟩ (.int .i64 a0.sm)).setCell ⟨w.heap.size, 6, none⟩ (.slice A3 a0.P.length c3)).setCell ⟨w.heap.size, 7, none⟩ (.slice B3 a0.Q.length d3)) = w4
    have hW' : set8 w3 (w.heap.size) (.int .i64 a0.k) (.int .i64 a0.s) (.int .i64 a0.z) (.int .u64 a0.zc) (.int .u64 a0.ct) (.int .i64 a0.sm) (.slice A3 a0.P.length c3) (.slice B3 a0.Q.length d3) = w4 := hW
    rw [hW'] at HT4
    clear hW hW' HT3 HAB
    have HOK := Lib.hid (show Ok a0 ∧ Ok b0 from ⟨by rw [← HD.out.1]; exact down_ok HO.out.1 (min_right HO.out.1 HO.out.2) (Int.min_le_left _ _), by rw [← HD.out.2]; exact down_ok HO.out.2 (min_right HO.out.1 HO.out.2) (Int.min_le_right _ _)⟩)
    have HR0 := Lib.hid (show RkRel w w0 a0 b0 w4 from ⟨a0, b0, A3, B3, A4, B4, c3, d3, c4, d4, HT4.out, ⟨HN3.out, HN4.out⟩, HOK.out, fun _ _ h => h⟩)
    clear HT4 HN3 HN4 HM HRr HLe
    go_loopw [] (fun wr => Hid (RkRel w w0 a0 b0 wr)) (fun wr => (262144 - max (zAt wr w.heap.size) (zAt wr (w.heap.size + 1))).toNat * 2 + (if zAt wr w.heap.size = zAt wr (w.heap.size + 1) then 0 else 1))
    case atStart => exact HR0
    case round =>
      have HR := hrel
      clear HR0 hrel
      obtain ⟨wo, hwo, HR⟩ : ∃ W, W = _ ∧ Hid (RkRel w w0 a0 b0 W) := ⟨_, rfl, HR⟩
      subst hwo
      obtain ⟨x, y, A1, B1, A2, B2, c1, d1, c2, d2, hT, hN, hO, hK⟩ := HR.out
      have HTr := Lib.hid hT
      have HNr := Lib.hid hN
      have HOr := Lib.hid hO
      have HKr := Lib.hid hK
      clear hT hN hO hK HR
      obtain ⟨x0, x1, x2, x3, x4, x5, x6, x7⟩ := HTr.out.X.cells
      obtain ⟨y0, y1, y2, y3, y4, y5, y6, y7⟩ := HTr.out.Y.cells
      have l0 := HTr.out.X.lt
      have l1 := HTr.out.Y.lt
      have HM := Lib.hid (show zAt wo w.heap.size = x.z ∧ zAt wo (w.heap.size + 1) = y.z from ⟨by unfold zAt; rw [x2]; rfl, by unfold zAt; rw [y2]; rfl⟩)
      by_cases hz : x.z = y.z
      · have hz1 : (x.z != y.z) = false := by simpa using hz
        have HZE := Lib.hid hz
        clear hz
        go_wp2_with fail
        have HE := Lib.hid (show ∃ p q, Alk a0 b0 p q ∧ RetP w p q (.returned (.tuple #[.agg #[.int .i64 x.k, .int .i64 x.s, .int .i64 x.z, .int .u64 x.zc, .int .u64 x.ct, .int .i64 x.sm, .slice A1 x.P.length c1, .slice B1 x.Q.length d1], .agg #[.int .i64 y.k, .int .i64 y.s, .int .i64 y.z, .int .u64 y.zc, .int .u64 y.ct, .int .i64 y.sm, .slice A2 y.P.length c2, .slice B2 y.Q.length d2]])) (set8 (set8 wo (w.heap.size + 1 + 1) (.int .i64 x.k) (.int .i64 x.s) (.int .i64 x.z) (.int .u64 x.zc) (.int .u64 x.ct) (.int .i64 x.sm) (.slice A1 x.P.length c1) (.slice B1 x.Q.length d1)) (w.heap.size + 1 + 1 + 1) (.int .i64 y.k) (.int .i64 y.s) (.int .i64 y.z) (.int .u64 y.zc) (.int .u64 y.ct) (.int .i64 y.sm) (.slice A2 y.P.length c2) (.slice B2 y.Q.length d2)) from ⟨x, y, HKr.out x y (.done HZE.out), A1, B1, A2, B2, c1, d1, c2, d2, rfl, ⟨(HTr.out.hA.set8 (HNr.out.1.1.ne HS0.out.2.2.1) _ _ _ _ _ _ _ _).set8 (HNr.out.1.1.ne HS0.out.2.2.2) _ _ _ _ _ _ _ _, (HTr.out.hB.set8 (HNr.out.1.2.ne HS0.out.2.2.1) _ _ _ _ _ _ _ _).set8 (HNr.out.1.2.ne HS0.out.2.2.2) _ _ _ _ _ _ _ _, (HTr.out.hA'.set8 (HNr.out.2.1.ne HS0.out.2.2.1) _ _ _ _ _ _ _ _).set8 (HNr.out.2.1.ne HS0.out.2.2.2) _ _ _ _ _ _ _ _, (HTr.out.hB'.set8 (HNr.out.2.2.ne HS0.out.2.2.1) _ _ _ _ _ _ _ _).set8 (HNr.out.2.2.ne HS0.out.2.2.2) _ _ _ _ _ _ _ _⟩,
          below_set8 (below_set8 HTr.out.b (by omega : w.heap.size ≤ w.heap.size + 1 + 1) _ _ _ _ _ _ _ _) (by omega : w.heap.size ≤ w.heap.size + 1 + 1 + 1) _ _ _ _ _ _ _ _, HNr.out.1.1.mono HBs.out, HNr.out.1.2.mono HBs.out, HNr.out.2.1.mono HBs.out, HNr.out.2.2.mono HBs.out⟩)
        have HF := Lib.hid (And.intro (Box.off8 (HTr.out.Z.put8 (.int .i64 x.k) (.int .i64 x.s) (.int .i64 x.z) (.int .u64 x.zc) (.int .u64 x.ct) (.int .i64 x.sm) (.slice A1 x.P.length c1) (.slice B1 x.Q.length d1)) (show w.heap.size + 1 + 1 ≠ w.heap.size + 1 + 1 + 1 by omega) (.int .i64 y.k) (.int .i64 y.s) (.int .i64 y.z) (.int .u64 y.zc) (.int .u64 y.ct) (.int .i64 y.sm) (.slice A2 y.P.length c2) (.slice B2 y.Q.length d2)) (Box.put8 (HTr.out.V.off8 (show w.heap.size + 1 + 1 + 1 ≠ w.heap.size + 1 + 1 by omega) (.int .i64 x.k) (.int .i64 x.s) (.int .i64 x.z) (.int .u64 x.zc) (.int .u64 x.ct) (.int .i64 x.sm) (.slice A1 x.P.length c1) (.slice B1 x.Q.length d1)) (.int .i64 y.k) (.int .i64 y.s) (.int .i64 y.z) (.int .u64 y.zc) (.int .u64 y.ct) (.int .i64 y.sm) (.slice A2 y.P.length c2) (.slice B2 y.Q.length d2)))
        obtain ⟨z0, z1, z2, z3, z4, z5, z6, z7⟩ := HTr.out.Z.cells
        obtain ⟨g0, g1, g2, g3, g4, g5, g6, g7⟩ := HTr.out.Z.frozen
        obtain ⟨t0, t1, t2, t3, t4, t5, t6, t7⟩ := HTr.out.V.cells
        obtain ⟨h0, h1, h2, h3, h4, h5, h6, h7⟩ := HTr.out.V.frozen
        have e2 := HTr.out.Z.lt
        have e3 := HTr.out.V.lt
        clear HM
        go_region_with (fail)
        all_goals (go_wp2_with fail)
        all_goals
          clear x0 x1 x2 x3 x4 x5 x6 x7 y0 y1 y2 y3 y4 y5 y6 y7 l0 l1 z0 z1 z2 z3 z4 z5 z6 z7 t0 t1 t2 t3 t4 t5 t6 t7 g0 g1 g2 g3 g4 g5 g6 g7 h0 h1 h2 h3 h4 h5 h6 h7 e2 e3
          generalize hW : ((((((((((((((((wo.setCell ⟨w.heap.size + 1 + 1, 0, none⟩ (.int .i64 x.k)).setCell ⟨w.heap.size + 1 + 1, 1, none⟩ (.int .i64 x.s)).setCell ⟨w.heap.size + 1 + 1, 2, none⟩ (.int .i64 x.z)).setCell ⟨w.heap.size + 1 + 1, 3, none⟩ (.int .u64 x.zc)).setCell ⟨w.heap.size + 1 + 1, 4, none⟩ (.int .u64 x.ct)).setCell ⟨w.heap.size + 1 + 1, 5, none⟩ (.int .i64 x.sm)).setCell ⟨w.heap.size + 1 + 1, 6, none⟩ (.slice A1 x.P.length c1)).setCell ⟨w.heap.size + 1 + 1, 7, none⟩ (.slice B1 x.Q.length d1)).setCell ⟨w.heap.size + 1 + 1 + 1, 0, none⟩ (.int .i64 y.k)).setCell ⟨w.heap.size + 1 + 1 + 1, 1, none⟩ (.int .i64 y.s)).setCell ⟨w.heap.size + 1 + 1 + 1, 2, none⟩ (.int .i64 y.z)).setCell ⟨w.heap.size + 1 + 1 + 1, 3, none⟩ (.int .u64 y.zc)).setCell ⟨w.heap.size + 1 + 1 + 1, 4, none⟩ (.int .u64 y.ct)).setCell ⟨w.heap.size + 1 + 1 + 1, 5, none⟩ (.int .i64 y.sm)).setCell ⟨w.heap.size + 1 + 1 + 1, 6, none⟩ (.slice A2 y.P.length c2)).setCell ⟨w.heap.size + 1 + 1 + 1, 7, none⟩ (.slice B2 y.Q.length d2)) = w9
          have hW' : set8 (set8 wo (w.heap.size + 1 + 1) (.int .i64 x.k) (.int .i64 x.s) (.int .i64 x.z) (.int .u64 x.zc) (.int .u64 x.ct) (.int .i64 x.sm) (.slice A1 x.P.length c1) (.slice B1 x.Q.length d1)) (w.heap.size + 1 + 1 + 1) (.int .i64 y.k) (.int .i64 y.s) (.int .i64 y.z) (.int .u64 y.zc) (.int .u64 y.ct) (.int .i64 y.sm) (.slice A2 y.P.length c2) (.slice B2 y.Q.length d2) = w9 := hW
          rw [hW'] at HE HF
          obtain ⟨z0, z1, z2, z3, z4, z5, z6, z7⟩ := HF.out.1.cells
          obtain ⟨t0, t1, t2, t3, t4, t5, t6, t7⟩ := HF.out.2.cells
          obtain ⟨p, q, hk, h⟩ := HE.out
          refine bodyPost_ret (v := .tuple #[.agg #[.int .i64 x.k, .int .i64 x.s, .int .i64 x.z, .int .u64 x.zc, .int .u64 x.ct, .int .i64 x.sm, .slice A1 x.P.length c1, .slice B1 x.Q.length d1], .agg #[.int .i64 y.k, .int .i64 y.s, .int .i64 y.z, .int .u64 y.zc, .int .u64 y.ct, .int .i64 y.sm, .slice A2 y.P.length c2, .slice B2 y.Q.length d2]]) (by simp [results, Try.results47, go_sem, z0, z1, z2, z3, z4, z5, z6, z7, t0, t1, t2, t3, t4, t5, t6, t7]) rfl ⟨p, q, hk, by first | exact h | exact RetP.drew h⟩
      · have hz1 : (x.z != y.z) = true := by simpa using hz
        by_cases hlt : x.z < y.z
        · have dq : decide (x.z < y.z) = true := by simpa using hlt
          obtain ⟨r, hr⟩ : ∃ r, swF x y.z = r := ⟨_, rfl⟩
          have hzz : zr y.z := HOr.out.2.z
          have HOk2 := Lib.hid (show Ok r by rw [← hr]; exact sw_ok HOr.out.1 hzz)
          have HWE := Lib.hid (show widenO x y.z = r ∧ widenE x.z y.z = 0 from by
            have h0 : widenE x.z y.z = 0 := by unfold widenE; rw [if_neg]; have hx := HOr.out.1.z; unfold zr at hzz hx; omega
            exact ⟨by unfold widenO; rw [h0, if_pos rfl, hr], h0⟩)
          have HLess := Lib.hid (show (262144 - max r.z y.z).toNat * 2 + (if r.z = y.z then 0 else 1) < (262144 - max x.z y.z).toNat * 2 + (if x.z = y.z then 0 else 1) from by
            have hl := ak_less HOr.out.1 HOr.out.2 hz (m := y.z) (by omega)
            rw [hr, sw_self HOr.out.2] at hl
            exact hl)
          have HK2 := Lib.hid (show ∀ p q, Alk r y p q → Alk a0 b0 p q from fun p q h => HKr.out p q (.step hz (by
            have hm : max x.z y.z = y.z := by omega
            rw [hm, hr, sw_self HOr.out.2]
            exact h)))
          clear hz hr hzz
          go_wp2_with fail
          clear x0 x1 x2 x3 x4 x5 x6 x7 y0 y1 y2 y3 y4 y5 y6 y7 l0 l1
          have hd := refwiden_any x y.z A1 B1 c1 d1 wo HTr.out.hA HTr.out.hB HOr.out.1
          refine hd.mono ?_
          intro e w5 hR
          obtain ⟨A3, B3, c3, d3, rfl, hA, hB, hb, hn⟩ := hR.as HWE.out.1 HWE.out.2
          have HN3 := Lib.hid (hn w0 HTr.out.sz HNr.out.1.1 HNr.out.1.2)
          have HT5 := Lib.hid (HTr.out.below hb)
          have HAB := Lib.hid (And.intro hA hB)
          clear hd hR hA hB hb hn
          obtain ⟨x0, x1, x2, x3, x4, x5, x6, x7⟩ := HT5.out.X.cells
          obtain ⟨y0, y1, y2, y3, y4, y5, y6, y7⟩ := HT5.out.Y.cells
          have l0 := HT5.out.X.lt
          have l1 := HT5.out.Y.lt
          obtain ⟨f0, f1, f2, f3, f4, f5, f6, f7⟩ := HT5.out.X.frozen
          simp only [hvA]
          go_wp2_with fail
          clear x0 x1 x2 x3 x4 x5 x6 x7 y0 y1 y2 y3 y4 y5 y6 y7 l0 l1 f0 f1 f2 f3 f4 f5 f6 f7
          have HT6 := Lib.hid (HT5.out.setX (c3 := c3) (d3 := d3) HAB.out.1 HAB.out.2 (.inr (HN3.out.1.ne HS0.out.1)) (.inr (HN3.out.2.ne HS0.out.1)) (.inr (HNr.out.2.1.ne HS0.out.1)) (.inr (HNr.out.2.2.ne HS0.out.1)))
          generalize hW : ((((((((w5.setCell ⟨w.heap.size, 0, none⟩ (.int .i64 r.k)).setCell ⟨w.heap.size, 1, none⟩ (.int .i64 r.s)).setCell ⟨w.heap.size, 2, none⟩ (.int .i64 r.z)).setCell ⟨w.heap.size, 3, none⟩ (.int .u64 r.zc)).setCell ⟨w.heap.size, 4, none⟩ (.int .u64 r.ct)).setCell ⟨w.heap.size, 5, none⟩ (.int .i64 r.sm)).setCell ⟨w.heap.size, 6, none⟩ (.slice A3 r.P.length c3)).setCell ⟨w.heap.size, 7, none⟩ (.slice B3 r.Q.length d3)) = w6
          have hW' : set8 w5 (w.heap.size) (.int .i64 r.k) (.int .i64 r.s) (.int .i64 r.z) (.int .u64 r.zc) (.int .u64 r.ct) (.int .i64 r.sm) (.slice A3 r.P.length c3) (.slice B3 r.Q.length d3) = w6 := hW
          rw [hW'] at HT6
          clear hW hW' HT5 HAB
          have HR6 := Lib.hid (show RkRel w w0 a0 b0 w6 from ⟨r, y, A3, B3, A2, B2, c3, d3, c2, d2, HT6.out, ⟨HN3.out, HNr.out.2⟩, ⟨HOk2.out, HOr.out.2⟩, HK2.out⟩)
          have HM6 := Lib.hid (show zAt w6 w.heap.size = r.z ∧ zAt w6 (w.heap.size + 1) = y.z from ⟨by unfold zAt; rw [HT6.out.X.cells.2.2.1]; rfl, by unfold zAt; rw [HT6.out.Y.cells.2.2.1]; rfl⟩)
          go_roundw
          case rel => exact HR6
          case measure =>
            have h1 := HM.out
            have h2 := HM6.out
            rw [h1.1, h1.2, h2.1, h2.2]
            exact HLess.out
        · have dq : decide (x.z < y.z) = false := by simpa using hlt
          obtain ⟨r, hr⟩ : ∃ r, swF y x.z = r := ⟨_, rfl⟩
          have hzz : zr x.z := HOr.out.1.z
          have HOk2 := Lib.hid (show Ok r by rw [← hr]; exact sw_ok HOr.out.2 hzz)
          have HWE := Lib.hid (show widenO y x.z = r ∧ widenE y.z x.z = 0 from by
            have h0 : widenE y.z x.z = 0 := by unfold widenE; rw [if_neg]; have hx := HOr.out.2.z; unfold zr at hzz hx; omega
            exact ⟨by unfold widenO; rw [h0, if_pos rfl, hr], h0⟩)
          have HLess := Lib.hid (show (262144 - max x.z r.z).toNat * 2 + (if x.z = r.z then 0 else 1) < (262144 - max x.z y.z).toNat * 2 + (if x.z = y.z then 0 else 1) from by
            have hl := ak_less HOr.out.1 HOr.out.2 hz (m := x.z) (by omega)
            rw [sw_self HOr.out.1, hr] at hl
            exact hl)
          have HK2 := Lib.hid (show ∀ p q, Alk x r p q → Alk a0 b0 p q from fun p q h => HKr.out p q (.step hz (by
            have hm : max x.z y.z = x.z := by omega
            rw [hm, sw_self HOr.out.1, hr]
            exact h)))
          clear hz hr hzz
          go_wp2_with fail
          clear x0 x1 x2 x3 x4 x5 x6 x7 y0 y1 y2 y3 y4 y5 y6 y7 l0 l1
          have hd := refwiden_any y x.z A2 B2 c2 d2 wo HTr.out.hA' HTr.out.hB' HOr.out.2
          refine hd.mono ?_
          intro e w5 hR
          obtain ⟨A3, B3, c3, d3, rfl, hA, hB, hb, hn⟩ := hR.as HWE.out.1 HWE.out.2
          have HN3 := Lib.hid (hn w0 HTr.out.sz HNr.out.2.1 HNr.out.2.2)
          have HT5 := Lib.hid (HTr.out.below hb)
          have HAB := Lib.hid (And.intro hA hB)
          clear hd hR hA hB hb hn
          obtain ⟨x0, x1, x2, x3, x4, x5, x6, x7⟩ := HT5.out.X.cells
          obtain ⟨y0, y1, y2, y3, y4, y5, y6, y7⟩ := HT5.out.Y.cells
          have l0 := HT5.out.X.lt
          have l1 := HT5.out.Y.lt
          obtain ⟨f0, f1, f2, f3, f4, f5, f6, f7⟩ := HT5.out.Y.frozen
          simp only [hvA]
          go_wp2_with fail
          clear x0 x1 x2 x3 x4 x5 x6 x7 y0 y1 y2 y3 y4 y5 y6 y7 l0 l1 f0 f1 f2 f3 f4 f5 f6 f7
          have HT6 := Lib.hid (HT5.out.setY (c3 := c3) (d3 := d3) HAB.out.1 HAB.out.2 (.inr (HN3.out.1.ne HS0.out.2.1)) (.inr (HN3.out.2.ne HS0.out.2.1)) (.inr (HNr.out.1.1.ne HS0.out.2.1)) (.inr (HNr.out.1.2.ne HS0.out.2.1)))
          generalize hW : ((((((((w5.setCell ⟨w.heap.size + 1, 0, none⟩ (.int .i64 r.k)).setCell ⟨w.heap.size + 1, 1, none⟩ (.int .i64 r.s)).setCell ⟨w.heap.size + 1, 2, none⟩ (.int .i64 r.z)).setCell ⟨w.heap.size + 1, 3, none⟩ (.int .u64 r.zc)).setCell ⟨w.heap.size + 1, 4, none⟩ (.int .u64 r.ct)).setCell ⟨w.heap.size + 1, 5, none⟩ (.int .i64 r.sm)).setCell ⟨w.heap.size + 1, 6, none⟩ (.slice A3 r.P.length c3)).setCell ⟨w.heap.size + 1, 7, none⟩ (.slice B3 r.Q.length d3)) = w6
          have hW' : set8 w5 (w.heap.size + 1) (.int .i64 r.k) (.int .i64 r.s) (.int .i64 r.z) (.int .u64 r.zc) (.int .u64 r.ct) (.int .i64 r.sm) (.slice A3 r.P.length c3) (.slice B3 r.Q.length d3) = w6 := hW
          rw [hW'] at HT6
          clear hW hW' HT5 HAB
          have HR6 := Lib.hid (show RkRel w w0 a0 b0 w6 from ⟨x, r, A1, B1, A3, B3, c1, d1, c3, d3, HT6.out, ⟨HNr.out.1, HN3.out⟩, ⟨HOr.out.1, HOk2.out⟩, HK2.out⟩)
          have HM6 := Lib.hid (show zAt w6 w.heap.size = x.z ∧ zAt w6 (w.heap.size + 1) = r.z from ⟨by unfold zAt; rw [HT6.out.X.cells.2.2.1]; rfl, by unfold zAt; rw [HT6.out.Y.cells.2.2.1]; rfl⟩)
          go_roundw
          case rel => exact HR6
          case measure =>
            have h1 := HM.out
            have h2 := HM6.out
            rw [h1.1, h1.2, h2.1, h2.2]
            exact HLess.out
  · skip
    have d1 : decide (a.s < b.s) = false := by simpa using hlt
    have hm : min a.s b.s = b.s := by omega
    have HM := Lib.hid hm
    have HRr := Lib.hid (And.intro HO.out.1.s HO.out.2.s)
    have hle : b.s ≤ a.s := by omega
    have HLe := Lib.hid hle
    clear hlt hm hle
    obtain ⟨x0, x1, x2, x3, x4, x5, x6, x7⟩ := HT0.out.X.cells
    obtain ⟨y0, y1, y2, y3, y4, y5, y6, y7⟩ := HT0.out.Y.cells
    have l0 := HT0.out.X.lt
    have l1 := HT0.out.Y.lt
    go_wp2_with fail
    clear x0 x1 x2 x3 x4 x5 x6 x7 y0 y1 y2 y3 y4 y5 y6 y7 l0 l1
    generalize ((((w.alloc (.cells #[.int .i64 a.k, .int .i64 a.s, .int .i64 a.z, .int .u64 a.zc, .int .u64 a.ct, .int .i64 a.sm, .slice A a.P.length c, .slice B a.Q.length d] 25)).alloc (.cells #[.int .i64 b.k, .int .i64 b.s, .int .i64 b.z, .int .u64 b.zc, .int .u64 b.ct, .int .i64 b.sm, .slice A' b.P.length c', .slice B' b.Q.length d'] 25)).alloc (.cells #[.int .i64 0, .int .i64 0, .int .i64 0, .int .u64 0, .int .u64 0, .int .i64 0, .slice none 0 0, .slice none 0 0] 25)).alloc (.cells #[.int .i64 0, .int .i64 0, .int .i64 0, .int .u64 0, .int .u64 0, .int .i64 0, .slice none 0 0, .slice none 0 0] 25)) = w0 at *
    have hd := refdown_any a b.s A B c d w0 HT0.out.hA HT0.out.hB HO.out.1
    refine hd.mono ?_
    intro e w1 hR
    obtain ⟨A3, B3, c3, d3, rfl, hA, hB, hb, nA, nB⟩ := hR.as (show downO a b.s = a0 by unfold downO downE; rw [if_pos (by rw [if_pos ⟨HRr.out.2, HLe.out⟩]), ← HM.out]; exact HD.out.1) (show downE a.s b.s = 0 by unfold downE; rw [if_pos ⟨HRr.out.2, HLe.out⟩])
    have HS0 := Lib.hid (And.intro HT0.out.X.lt (And.intro HT0.out.Y.lt (And.intro HT0.out.Z.lt HT0.out.V.lt)))
    have HN3 := Lib.hid (And.intro nA nB)
    have HT1 := Lib.hid (HT0.out.below hb)
    have HAB := Lib.hid (And.intro hA hB)
    clear hd hR hA hB hb nA nB HT0
    obtain ⟨x0, x1, x2, x3, x4, x5, x6, x7⟩ := HT1.out.X.cells
    obtain ⟨y0, y1, y2, y3, y4, y5, y6, y7⟩ := HT1.out.Y.cells
    have l0 := HT1.out.X.lt
    have l1 := HT1.out.Y.lt
    obtain ⟨f0, f1, f2, f3, f4, f5, f6, f7⟩ := HT1.out.X.frozen
    simp only [hvA]
    go_wp2_with fail
    clear x0 x1 x2 x3 x4 x5 x6 x7 y0 y1 y2 y3 y4 y5 y6 y7 l0 l1 f0 f1 f2 f3 f4 f5 f6 f7
    have HT2 := Lib.hid (HT1.out.setX (c3 := c3) (d3 := d3) HAB.out.1 HAB.out.2 (.inr (HN3.out.1.ne HS0.out.1)) (.inr (HN3.out.2.ne HS0.out.1)) (HKw.out.2.1.ne_lt (by omega)) (HKw.out.2.2.ne_lt (by omega)))
    generalize hW : ((((((((w1.setCell ⟨w.heap.size, 0, none⟩ (.int .i64 a0.k)).setCell ⟨w.heap.size, 1, none⟩ (.int .i64 a0.s)).setCell ⟨w.heap.size, 2, none⟩ (.int .i64 a0.z)).setCell ⟨w.heap.size, 3, none⟩ (.int .u64 a0.zc)).setCell ⟨w.heap.size, 4, none⟩ (.int .u64 a0.ct)).setCell ⟨w.heap.size, 5, none⟩ (.int .i64 a0.sm)).setCell ⟨w.heap.size, 6, none⟩ (.slice A3 a0.P.length c3)).setCell ⟨w.heap.size, 7, none⟩ (.slice B3 a0.Q.length d3)) = w2
    have hW' : set8 w1 (w.heap.size) (.int .i64 a0.k) (.int .i64 a0.s) (.int .i64 a0.z) (.int .u64 a0.zc) (.int .u64 a0.ct) (.int .i64 a0.sm) (.slice A3 a0.P.length c3) (.slice B3 a0.Q.length d3) = w2 := hW
    rw [hW'] at HT2
    clear hW hW' HT1 HAB
    have hd := refdown_any b b.s A' B' c' d' w2 HT2.out.hA' HT2.out.hB' HO.out.2
    refine hd.mono ?_
    intro e w3 hR
    obtain ⟨A4, B4, c4, d4, rfl, hA, hB, hb, nA, nB⟩ := hR.as (show downO b b.s = b0 by unfold downO downE; rw [if_pos (by rw [if_pos ⟨HRr.out.2, Int.le_refl _⟩])]; have h := HD.out.2; rw [HM.out] at h; exact h) (show downE b.s b.s = 0 by unfold downE; rw [if_pos ⟨HRr.out.2, Int.le_refl _⟩])
    have HN4 := Lib.hid (And.intro (nA.mono HT2.out.sz) (nB.mono HT2.out.sz))
    have HT3 := Lib.hid (HT2.out.below hb)
    have HAB := Lib.hid (And.intro hA hB)
    clear hd hR hA hB hb nA nB HT2
    obtain ⟨x0, x1, x2, x3, x4, x5, x6, x7⟩ := HT3.out.X.cells
    obtain ⟨y0, y1, y2, y3, y4, y5, y6, y7⟩ := HT3.out.Y.cells
    have l0 := HT3.out.X.lt
    have l1 := HT3.out.Y.lt
    obtain ⟨f0, f1, f2, f3, f4, f5, f6, f7⟩ := HT3.out.Y.frozen
    simp only [hvA]
    go_wp2_with fail
    clear x0 x1 x2 x3 x4 x5 x6 x7 y0 y1 y2 y3 y4 y5 y6 y7 l0 l1 f0 f1 f2 f3 f4 f5 f6 f7
    have HT4 := Lib.hid (HT3.out.setY (c3 := c4) (d3 := d4) HAB.out.1 HAB.out.2 (.inr (HN4.out.1.ne HS0.out.2.1)) (.inr (HN4.out.2.ne HS0.out.2.1)) (.inr (HN3.out.1.ne HS0.out.2.1)) (.inr (HN3.out.2.ne HS0.out.2.1)))
    generalize hW : ((((((((w3.setCell ⟨w.heap.size + 1, 0, none⟩ (.int .i64 b0.k)).setCell ⟨w.heap.size + 1, 1, none⟩ (.int .i64 b0.s)).setCell ⟨w.heap.size + 1, 2, none⟩ (.int .i64 b0.z)).setCell ⟨w.heap.size + 1, 3, none⟩ (.int .u64 b0.zc)).setCell ⟨w.heap.size + 1, 4, none⟩ (.int .u64 b0.ct)).setCell ⟨w.heap.size + 1, 5, none⟩ (.int .i64 b0.sm)).setCell ⟨w.heap.size + 1, 6, none⟩ (.slice A4 b0.P.length c4)).setCell ⟨w.heap.size + 1, 7, none⟩ (.slice B4 b0.Q.length d4)) = w4
    have hW' : set8 w3 (w.heap.size + 1) (.int .i64 b0.k) (.int .i64 b0.s) (.int .i64 b0.z) (.int .u64 b0.zc) (.int .u64 b0.ct) (.int .i64 b0.sm) (.slice A4 b0.P.length c4) (.slice B4 b0.Q.length d4) = w4 := hW
    rw [hW'] at HT4
    clear hW hW' HT3 HAB
    have HOK := Lib.hid (show Ok a0 ∧ Ok b0 from ⟨by rw [← HD.out.1]; exact down_ok HO.out.1 (min_right HO.out.1 HO.out.2) (Int.min_le_left _ _), by rw [← HD.out.2]; exact down_ok HO.out.2 (min_right HO.out.1 HO.out.2) (Int.min_le_right _ _)⟩)
    have HR0 := Lib.hid (show RkRel w w0 a0 b0 w4 from ⟨a0, b0, A3, B3, A4, B4, c3, d3, c4, d4, HT4.out, ⟨HN3.out, HN4.out⟩, HOK.out, fun _ _ h => h⟩)
    clear HT4 HN3 HN4 HM HRr HLe
    go_loopw [] (fun wr => Hid (RkRel w w0 a0 b0 wr)) (fun wr => (262144 - max (zAt wr w.heap.size) (zAt wr (w.heap.size + 1))).toNat * 2 + (if zAt wr w.heap.size = zAt wr (w.heap.size + 1) then 0 else 1))
    case atStart => exact HR0
    case round =>
      have HR := hrel
      clear HR0 hrel
      obtain ⟨wo, hwo, HR⟩ : ∃ W, W = _ ∧ Hid (RkRel w w0 a0 b0 W) := ⟨_, rfl, HR⟩
      subst hwo
      obtain ⟨x, y, A1, B1, A2, B2, c1, d1, c2, d2, hT, hN, hO, hK⟩ := HR.out
      have HTr := Lib.hid hT
      have HNr := Lib.hid hN
      have HOr := Lib.hid hO
      have HKr := Lib.hid hK
      clear hT hN hO hK HR
      obtain ⟨x0, x1, x2, x3, x4, x5, x6, x7⟩ := HTr.out.X.cells
      obtain ⟨y0, y1, y2, y3, y4, y5, y6, y7⟩ := HTr.out.Y.cells
      have l0 := HTr.out.X.lt
      have l1 := HTr.out.Y.lt
      have HM := Lib.hid (show zAt wo w.heap.size = x.z ∧ zAt wo (w.heap.size + 1) = y.z from ⟨by unfold zAt; rw [x2]; rfl, by unfold zAt; rw [y2]; rfl⟩)
      by_cases hz : x.z = y.z
      · have hz1 : (x.z != y.z) = false := by simpa using hz
        have HZE := Lib.hid hz
        clear hz
        go_wp2_with fail
        have HE := Lib.hid (show ∃ p q, Alk a0 b0 p q ∧ RetP w p q (.returned (.tuple #[.agg #[.int .i64 x.k, .int .i64 x.s, .int .i64 x.z, .int .u64 x.zc, .int .u64 x.ct, .int .i64 x.sm, .slice A1 x.P.length c1, .slice B1 x.Q.length d1], .agg #[.int .i64 y.k, .int .i64 y.s, .int .i64 y.z, .int .u64 y.zc, .int .u64 y.ct, .int .i64 y.sm, .slice A2 y.P.length c2, .slice B2 y.Q.length d2]])) (set8 (set8 wo (w.heap.size + 1 + 1) (.int .i64 x.k) (.int .i64 x.s) (.int .i64 x.z) (.int .u64 x.zc) (.int .u64 x.ct) (.int .i64 x.sm) (.slice A1 x.P.length c1) (.slice B1 x.Q.length d1)) (w.heap.size + 1 + 1 + 1) (.int .i64 y.k) (.int .i64 y.s) (.int .i64 y.z) (.int .u64 y.zc) (.int .u64 y.ct) (.int .i64 y.sm) (.slice A2 y.P.length c2) (.slice B2 y.Q.length d2)) from ⟨x, y, HKr.out x y (.done HZE.out), A1, B1, A2, B2, c1, d1, c2, d2, rfl, ⟨(HTr.out.hA.set8 (HNr.out.1.1.ne HS0.out.2.2.1) _ _ _ _ _ _ _ _).set8 (HNr.out.1.1.ne HS0.out.2.2.2) _ _ _ _ _ _ _ _, (HTr.out.hB.set8 (HNr.out.1.2.ne HS0.out.2.2.1) _ _ _ _ _ _ _ _).set8 (HNr.out.1.2.ne HS0.out.2.2.2) _ _ _ _ _ _ _ _, (HTr.out.hA'.set8 (HNr.out.2.1.ne HS0.out.2.2.1) _ _ _ _ _ _ _ _).set8 (HNr.out.2.1.ne HS0.out.2.2.2) _ _ _ _ _ _ _ _, (HTr.out.hB'.set8 (HNr.out.2.2.ne HS0.out.2.2.1) _ _ _ _ _ _ _ _).set8 (HNr.out.2.2.ne HS0.out.2.2.2) _ _ _ _ _ _ _ _⟩,
          below_set8 (below_set8 HTr.out.b (by omega : w.heap.size ≤ w.heap.size + 1 + 1) _ _ _ _ _ _ _ _) (by omega : w.heap.size ≤ w.heap.size + 1 + 1 + 1) _ _ _ _ _ _ _ _, HNr.out.1.1.mono HBs.out, HNr.out.1.2.mono HBs.out, HNr.out.2.1.mono HBs.out, HNr.out.2.2.mono HBs.out⟩)
        have HF := Lib.hid (And.intro (Box.off8 (HTr.out.Z.put8 (.int .i64 x.k) (.int .i64 x.s) (.int .i64 x.z) (.int .u64 x.zc) (.int .u64 x.ct) (.int .i64 x.sm) (.slice A1 x.P.length c1) (.slice B1 x.Q.length d1)) (show w.heap.size + 1 + 1 ≠ w.heap.size + 1 + 1 + 1 by omega) (.int .i64 y.k) (.int .i64 y.s) (.int .i64 y.z) (.int .u64 y.zc) (.int .u64 y.ct) (.int .i64 y.sm) (.slice A2 y.P.length c2) (.slice B2 y.Q.length d2)) (Box.put8 (HTr.out.V.off8 (show w.heap.size + 1 + 1 + 1 ≠ w.heap.size + 1 + 1 by omega) (.int .i64 x.k) (.int .i64 x.s) (.int .i64 x.z) (.int .u64 x.zc) (.int .u64 x.ct) (.int .i64 x.sm) (.slice A1 x.P.length c1) (.slice B1 x.Q.length d1)) (.int .i64 y.k) (.int .i64 y.s) (.int .i64 y.z) (.int .u64 y.zc) (.int .u64 y.ct) (.int .i64 y.sm) (.slice A2 y.P.length c2) (.slice B2 y.Q.length d2)))
        obtain ⟨z0, z1, z2, z3, z4, z5, z6, z7⟩ := HTr.out.Z.cells
        obtain ⟨g0, g1, g2, g3, g4, g5, g6, g7⟩ := HTr.out.Z.frozen
        obtain ⟨t0, t1, t2, t3, t4, t5, t6, t7⟩ := HTr.out.V.cells
        obtain ⟨h0, h1, h2, h3, h4, h5, h6, h7⟩ := HTr.out.V.frozen
        have e2 := HTr.out.Z.lt
        have e3 := HTr.out.V.lt
        clear HM
        go_region_with (fail)
        all_goals (go_wp2_with fail)
        all_goals
          clear x0 x1 x2 x3 x4 x5 x6 x7 y0 y1 y2 y3 y4 y5 y6 y7 l0 l1 z0 z1 z2 z3 z4 z5 z6 z7 t0 t1 t2 t3 t4 t5 t6 t7 g0 g1 g2 g3 g4 g5 g6 g7 h0 h1 h2 h3 h4 h5 h6 h7 e2 e3
          generalize hW : ((((((((((((((((wo.setCell ⟨w.heap.size + 1 + 1, 0, none⟩ (.int .i64 x.k)).setCell ⟨w.heap.size + 1 + 1, 1, none⟩ (.int .i64 x.s)).setCell ⟨w.heap.size + 1 + 1, 2, none⟩ (.int .i64 x.z)).setCell ⟨w.heap.size + 1 + 1, 3, none⟩ (.int .u64 x.zc)).setCell ⟨w.heap.size + 1 + 1, 4, none⟩ (.int .u64 x.ct)).setCell ⟨w.heap.size + 1 + 1, 5, none⟩ (.int .i64 x.sm)).setCell ⟨w.heap.size + 1 + 1, 6, none⟩ (.slice A1 x.P.length c1)).setCell ⟨w.heap.size + 1 + 1, 7, none⟩ (.slice B1 x.Q.length d1)).setCell ⟨w.heap.size + 1 + 1 + 1, 0, none⟩ (.int .i64 y.k)).setCell ⟨w.heap.size + 1 + 1 + 1, 1, none⟩ (.int .i64 y.s)).setCell ⟨w.heap.size + 1 + 1 + 1, 2, none⟩ (.int .i64 y.z)).setCell ⟨w.heap.size + 1 + 1 + 1, 3, none⟩ (.int .u64 y.zc)).setCell ⟨w.heap.size + 1 + 1 + 1, 4, none⟩ (.int .u64 y.ct)).setCell ⟨w.heap.size + 1 + 1 + 1, 5, none⟩ (.int .i64 y.sm)).setCell ⟨w.heap.size + 1 + 1 + 1, 6, none⟩ (.slice A2 y.P.length c2)).setCell ⟨w.heap.size + 1 + 1 + 1, 7, none⟩ (.slice B2 y.Q.length d2)) = w9
          have hW' : set8 (set8 wo (w.heap.size + 1 + 1) (.int .i64 x.k) (.int .i64 x.s) (.int .i64 x.z) (.int .u64 x.zc) (.int .u64 x.ct) (.int .i64 x.sm) (.slice A1 x.P.length c1) (.slice B1 x.Q.length d1)) (w.heap.size + 1 + 1 + 1) (.int .i64 y.k) (.int .i64 y.s) (.int .i64 y.z) (.int .u64 y.zc) (.int .u64 y.ct) (.int .i64 y.sm) (.slice A2 y.P.length c2) (.slice B2 y.Q.length d2) = w9 := hW
          rw [hW'] at HE HF
          obtain ⟨z0, z1, z2, z3, z4, z5, z6, z7⟩ := HF.out.1.cells
          obtain ⟨t0, t1, t2, t3, t4, t5, t6, t7⟩ := HF.out.2.cells
          obtain ⟨p, q, hk, h⟩ := HE.out
          refine bodyPost_ret (v := .tuple #[.agg #[.int .i64 x.k, .int .i64 x.s, .int .i64 x.z, .int .u64 x.zc, .int .u64 x.ct, .int .i64 x.sm, .slice A1 x.P.length c1, .slice B1 x.Q.length d1], .agg #[.int .i64 y.k, .int .i64 y.s, .int .i64 y.z, .int .u64 y.zc, .int .u64 y.ct, .int .i64 y.sm, .slice A2 y.P.length c2, .slice B2 y.Q.length d2]]) (by simp [results, Try.results47, go_sem, z0, z1, z2, z3, z4, z5, z6, z7, t0, t1, t2, t3, t4, t5, t6, t7]) rfl ⟨p, q, hk, by first | exact h | exact RetP.drew h⟩
      · have hz1 : (x.z != y.z) = true := by simpa using hz
        by_cases hlt : x.z < y.z
        · have dq : decide (x.z < y.z) = true := by simpa using hlt
          obtain ⟨r, hr⟩ : ∃ r, swF x y.z = r := ⟨_, rfl⟩
          have hzz : zr y.z := HOr.out.2.z
          have HOk2 := Lib.hid (show Ok r by rw [← hr]; exact sw_ok HOr.out.1 hzz)
          have HWE := Lib.hid (show widenO x y.z = r ∧ widenE x.z y.z = 0 from by
            have h0 : widenE x.z y.z = 0 := by unfold widenE; rw [if_neg]; have hx := HOr.out.1.z; unfold zr at hzz hx; omega
            exact ⟨by unfold widenO; rw [h0, if_pos rfl, hr], h0⟩)
          have HLess := Lib.hid (show (262144 - max r.z y.z).toNat * 2 + (if r.z = y.z then 0 else 1) < (262144 - max x.z y.z).toNat * 2 + (if x.z = y.z then 0 else 1) from by
            have hl := ak_less HOr.out.1 HOr.out.2 hz (m := y.z) (by omega)
            rw [hr, sw_self HOr.out.2] at hl
            exact hl)
          have HK2 := Lib.hid (show ∀ p q, Alk r y p q → Alk a0 b0 p q from fun p q h => HKr.out p q (.step hz (by
            have hm : max x.z y.z = y.z := by omega
            rw [hm, hr, sw_self HOr.out.2]
            exact h)))
          clear hz hr hzz
          go_wp2_with fail
          clear x0 x1 x2 x3 x4 x5 x6 x7 y0 y1 y2 y3 y4 y5 y6 y7 l0 l1
          have hd := refwiden_any x y.z A1 B1 c1 d1 wo HTr.out.hA HTr.out.hB HOr.out.1
          refine hd.mono ?_
          intro e w5 hR
          obtain ⟨A3, B3, c3, d3, rfl, hA, hB, hb, hn⟩ := hR.as HWE.out.1 HWE.out.2
          have HN3 := Lib.hid (hn w0 HTr.out.sz HNr.out.1.1 HNr.out.1.2)
          have HT5 := Lib.hid (HTr.out.below hb)
          have HAB := Lib.hid (And.intro hA hB)
          clear hd hR hA hB hb hn
          obtain ⟨x0, x1, x2, x3, x4, x5, x6, x7⟩ := HT5.out.X.cells
          obtain ⟨y0, y1, y2, y3, y4, y5, y6, y7⟩ := HT5.out.Y.cells
          have l0 := HT5.out.X.lt
          have l1 := HT5.out.Y.lt
          obtain ⟨f0, f1, f2, f3, f4, f5, f6, f7⟩ := HT5.out.X.frozen
          simp only [hvA]
          go_wp2_with fail
          clear x0 x1 x2 x3 x4 x5 x6 x7 y0 y1 y2 y3 y4 y5 y6 y7 l0 l1 f0 f1 f2 f3 f4 f5 f6 f7
          have HT6 := Lib.hid (HT5.out.setX (c3 := c3) (d3 := d3) HAB.out.1 HAB.out.2 (.inr (HN3.out.1.ne HS0.out.1)) (.inr (HN3.out.2.ne HS0.out.1)) (.inr (HNr.out.2.1.ne HS0.out.1)) (.inr (HNr.out.2.2.ne HS0.out.1)))
          generalize hW : ((((((((w5.setCell ⟨w.heap.size, 0, none⟩ (.int .i64 r.k)).setCell ⟨w.heap.size, 1, none⟩ (.int .i64 r.s)).setCell ⟨w.heap.size, 2, none⟩ (.int .i64 r.z)).setCell ⟨w.heap.size, 3, none⟩ (.int .u64 r.zc)).setCell ⟨w.heap.size, 4, none⟩ (.int .u64 r.ct)).setCell ⟨w.heap.size, 5, none⟩ (.int .i64 r.sm)).setCell ⟨w.heap.size, 6, none⟩ (.slice A3 r.P.length c3)).setCell ⟨w.heap.size, 7, none⟩ (.slice B3 r.Q.length d3)) = w6
          have hW' : set8 w5 (w.heap.size) (.int .i64 r.k) (.int .i64 r.s) (.int .i64 r.z) (.int .u64 r.zc) (.int .u64 r.ct) (.int .i64 r.sm) (.slice A3 r.P.length c3) (.slice B3 r.Q.length d3) = w6 := hW
          rw [hW'] at HT6
          clear hW hW' HT5 HAB
          have HR6 := Lib.hid (show RkRel w w0 a0 b0 w6 from ⟨r, y, A3, B3, A2, B2, c3, d3, c2, d2, HT6.out, ⟨HN3.out, HNr.out.2⟩, ⟨HOk2.out, HOr.out.2⟩, HK2.out⟩)
          have HM6 := Lib.hid (show zAt w6 w.heap.size = r.z ∧ zAt w6 (w.heap.size + 1) = y.z from ⟨by unfold zAt; rw [HT6.out.X.cells.2.2.1]; rfl, by unfold zAt; rw [HT6.out.Y.cells.2.2.1]; rfl⟩)
          go_roundw
          case rel => exact HR6
          case measure =>
            have h1 := HM.out
            have h2 := HM6.out
            rw [h1.1, h1.2, h2.1, h2.2]
            exact HLess.out
        · have dq : decide (x.z < y.z) = false := by simpa using hlt
          obtain ⟨r, hr⟩ : ∃ r, swF y x.z = r := ⟨_, rfl⟩
          have hzz : zr x.z := HOr.out.1.z
          have HOk2 := Lib.hid (show Ok r by rw [← hr]; exact sw_ok HOr.out.2 hzz)
          have HWE := Lib.hid (show widenO y x.z = r ∧ widenE y.z x.z = 0 from by
            have h0 : widenE y.z x.z = 0 := by unfold widenE; rw [if_neg]; have hx := HOr.out.2.z; unfold zr at hzz hx; omega
            exact ⟨by unfold widenO; rw [h0, if_pos rfl, hr], h0⟩)
          have HLess := Lib.hid (show (262144 - max x.z r.z).toNat * 2 + (if x.z = r.z then 0 else 1) < (262144 - max x.z y.z).toNat * 2 + (if x.z = y.z then 0 else 1) from by
            have hl := ak_less HOr.out.1 HOr.out.2 hz (m := x.z) (by omega)
            rw [sw_self HOr.out.1, hr] at hl
            exact hl)
          have HK2 := Lib.hid (show ∀ p q, Alk x r p q → Alk a0 b0 p q from fun p q h => HKr.out p q (.step hz (by
            have hm : max x.z y.z = x.z := by omega
            rw [hm, sw_self HOr.out.1, hr]
            exact h)))
          clear hz hr hzz
          go_wp2_with fail
          clear x0 x1 x2 x3 x4 x5 x6 x7 y0 y1 y2 y3 y4 y5 y6 y7 l0 l1
          have hd := refwiden_any y x.z A2 B2 c2 d2 wo HTr.out.hA' HTr.out.hB' HOr.out.2
          refine hd.mono ?_
          intro e w5 hR
          obtain ⟨A3, B3, c3, d3, rfl, hA, hB, hb, hn⟩ := hR.as HWE.out.1 HWE.out.2
          have HN3 := Lib.hid (hn w0 HTr.out.sz HNr.out.2.1 HNr.out.2.2)
          have HT5 := Lib.hid (HTr.out.below hb)
          have HAB := Lib.hid (And.intro hA hB)
          clear hd hR hA hB hb hn
          obtain ⟨x0, x1, x2, x3, x4, x5, x6, x7⟩ := HT5.out.X.cells
          obtain ⟨y0, y1, y2, y3, y4, y5, y6, y7⟩ := HT5.out.Y.cells
          have l0 := HT5.out.X.lt
          have l1 := HT5.out.Y.lt
          obtain ⟨f0, f1, f2, f3, f4, f5, f6, f7⟩ := HT5.out.Y.frozen
          simp only [hvA]
          go_wp2_with fail
          clear x0 x1 x2 x3 x4 x5 x6 x7 y0 y1 y2 y3 y4 y5 y6 y7 l0 l1 f0 f1 f2 f3 f4 f5 f6 f7
          have HT6 := Lib.hid (HT5.out.setY (c3 := c3) (d3 := d3) HAB.out.1 HAB.out.2 (.inr (HN3.out.1.ne HS0.out.2.1)) (.inr (HN3.out.2.ne HS0.out.2.1)) (.inr (HNr.out.1.1.ne HS0.out.2.1)) (.inr (HNr.out.1.2.ne HS0.out.2.1)))
          generalize hW : ((((((((w5.setCell ⟨w.heap.size + 1, 0, none⟩ (.int .i64 r.k)).setCell ⟨w.heap.size + 1, 1, none⟩ (.int .i64 r.s)).setCell ⟨w.heap.size + 1, 2, none⟩ (.int .i64 r.z)).setCell ⟨w.heap.size + 1, 3, none⟩ (.int .u64 r.zc)).setCell ⟨w.heap.size + 1, 4, none⟩ (.int .u64 r.ct)).setCell ⟨w.heap.size + 1, 5, none⟩ (.int .i64 r.sm)).setCell ⟨w.heap.size + 1, 6, none⟩ (.slice A3 r.P.length c3)).setCell ⟨w.heap.size + 1, 7, none⟩ (.slice B3 r.Q.length d3)) = w6
          have hW' : set8 w5 (w.heap.size + 1) (.int .i64 r.k) (.int .i64 r.s) (.int .i64 r.z) (.int .u64 r.zc) (.int .u64 r.ct) (.int .i64 r.sm) (.slice A3 r.P.length c3) (.slice B3 r.Q.length d3) = w6 := hW
          rw [hW'] at HT6
          clear hW hW' HT5 HAB
          have HR6 := Lib.hid (show RkRel w w0 a0 b0 w6 from ⟨x, r, A1, B1, A3, B3, c1, d1, c3, d3, HT6.out, ⟨HNr.out.1, HN3.out⟩, ⟨HOr.out.1, HOk2.out⟩, HK2.out⟩)
          have HM6 := Lib.hid (show zAt w6 w.heap.size = x.z ∧ zAt w6 (w.heap.size + 1) = r.z from ⟨by unfold zAt; rw [HT6.out.X.cells.2.2.1]; rfl, by unfold zAt; rw [HT6.out.Y.cells.2.2.1]; rfl⟩)
          go_roundw
          case rel => exact HR6
          case measure =>
            have h1 := HM.out
            have h2 := HM6.out
            rw [h1.1, h1.2, h2.1, h2.2]
            exact HLess.out
end Go.Proofs.Ytbibhjcmdehdbaa

/-! The law MeldDowns. -/
namespace Go.Proofs.Ytbibhjcmdehdbaa
open Go.RowKit Go.Sort Go.Maps
set_option linter.unusedVariables false

theorem rsame_h (a b : HV) (A B A' B' : Option Addr) (c d c' d' : Nat) (w : World) (hP : Bk w A a.P) (hQ : Bk w B a.Q) (hP' : Bk w A' b.P) (hQ' : Bk w B' b.Q) (h : a = b) :
    Calls Try.prog 16 #[.agg #[.int .i64 a.k, .int .i64 a.s, .int .i64 a.z, .int .u64 a.zc, .int .u64 a.ct, .int .i64 a.sm, .slice A a.P.length c, .slice B a.Q.length d], .agg #[.int .i64 b.k, .int .i64 b.s, .int .i64 b.z, .int .u64 b.zc, .int .u64 b.ct, .int .i64 b.sm, .slice A' b.P.length c', .slice B' b.Q.length d']] w fun e w' => e = .returned (.bool true) ∧ Below w.heap.size w w' := by
  subst h
  refine (rsame_any a.k a.s a.z a.zc a.ct a.sm a.k a.s a.z a.zc a.ct a.sm A B A' B' c d c' d' a.P a.Q a.P a.Q w hP hQ hP' hQ').mono ?_
  rintro e w' ⟨rfl, hb⟩
  exact ⟨by rw [sameF_self], hb⟩
theorem alike_h (a b : HV) (A B A' B' : Option Addr) (c d c' d' : Nat) (w : World) (hP : Bk w A a.P) (hQ : Bk w B a.Q) (hP' : Bk w A' b.P) (hQ' : Bk w B' b.Q) (oa : Ok a) (ob : Ok b) :
    Calls Try.prog 42 #[.agg #[.int .i64 a.k, .int .i64 a.s, .int .i64 a.z, .int .u64 a.zc, .int .u64 a.ct, .int .i64 a.sm, .slice A a.P.length c, .slice B a.Q.length d], .agg #[.int .i64 b.k, .int .i64 b.s, .int .i64 b.z, .int .u64 b.zc, .int .u64 b.ct, .int .i64 b.sm, .slice A' b.P.length c', .slice B' b.Q.length d']] w fun e w' => ∃ x y, Two a b x y ∧ RetT w x y 0 e w' := by
  obtain ⟨k, s, z, zc, ct, sm, P, Q⟩ := a
  obtain ⟨k', s', z', zc', ct', sm', P', Q'⟩ := b
  refine (alike_any downC k s z zc ct sm P Q k' s' z' zc' ct' sm' P' Q' A B A' B' c d c' d' w hP hQ hP' hQ' oa ob _ _ rfl rfl).mono ?_
  rintro e w' ⟨x', y', hk, hr⟩
  exact ⟨x', y', ⟨hk, oa, ob⟩, hr⟩
theorem refalike_two {a b x y : HV} (h : Two a b x y) (A B A' B' : Option Addr) (c d c' d' : Nat) (w : World) (hP : Bk w A a.P) (hQ : Bk w B a.Q) (hP' : Bk w A' b.P) (hQ' : Bk w B' b.Q) :
    Calls Try.prog 47 #[.agg #[.int .i64 a.k, .int .i64 a.s, .int .i64 a.z, .int .u64 a.zc, .int .u64 a.ct, .int .i64 a.sm, .slice A a.P.length c, .slice B a.Q.length d], .agg #[.int .i64 b.k, .int .i64 b.s, .int .i64 b.z, .int .u64 b.zc, .int .u64 b.ct, .int .i64 b.sm, .slice A' b.P.length c', .slice B' b.Q.length d']] w (RetP w x y) := by
  refine (refalike_any a b A B A' B' c d c' d' w hP hQ hP' hQ' h.oa h.ob _ _ rfl rfl).mono ?_
  rintro e w' ⟨x', y', hk, hr⟩
  obtain ⟨rfl, rfl⟩ := h.alk.unique hk
  exact hr
end Go.Proofs.Ytbibhjcmdehdbaa

/-! The document's Sub. -/
namespace Go.Proofs.Ytbibhjcmdehdbaa
open Go.RowKit Go.Sort Go.Maps
set_option linter.unusedVariables false

theorem infoI : (Try.prog.info? 2).map (fun i => (i.zero, i.size, i.bytes)) = some (some (.int .i64 0), 1, 8) := by kernel_rfl
def rowsI (L : List Int) : List Value := L.map (Value.int .i64)
theorem rowsI_snoc (L : List Int) (n : Int) : rowsI (L ++ [n]) = rowsI L ++ [.int .i64 n] := by simp [rowsI]
theorem ownsI_two (w : World) (m n : Int) : (w.alloc (.cells #[.int .i64 m, .int .i64 n] 2)).ownsRow w.heap.size 2 1 (.slice (some ⟨w.heap.size, 0, none⟩) 2 2) 2 (rowsI [m, n]) :=
  ⟨by simp [rowsI], .inr ⟨w.heap.size, 2, #[.int .i64 m, .int .i64 n], rfl, Nat.le_refl _, heap_alloc_new w _, by omega, by unfold maxLen; omega, rfl, by simp [rowsI]⟩⟩
/-- append(parts, n) -/
theorem app_i64 {ops : Array Oper} {rest : List Oper} {o : Oper} {a : Act} {w : World} {Q : Exit → Act → World → Prop} (hgd : o.guard = none) (s x : Operand)
    (ho : o.op = .call { callee := .builtin .append, args := #[s, x], argTypes := #[90, 90] })
    (base : Nat) (A : Option Addr) (n c : Nat) (L : List Int) (hs : a.eval s = .slice A n c) (hown : w.ownsRow base 2 1 (.slice A n c) n (rowsI L))
    (g : Nat) (hx : a.eval x = .slice (some ⟨g, 0, none⟩) 1 1) (y : Int) (hy0 : w.cell? ⟨g, 0, none⟩ = some (.int .i64 y)) (hl : n + 1 ≤ 1000000) (hbase : base ≤ w.heap.size)
    (h : ∀ A' c' w', w'.ownsRow base 2 1 (.slice A' (n + 1) c') (n + 1) (rowsI (L ++ [y])) → w.grownBy w' (Value.slice A n c).ownBlock → wpList Try.prog ops Q rest (a.put o.dst (.slice A' (n + 1) c')) w') : wpList Try.prog ops Q (o :: rest) a w := by
  obtain ⟨i0, hi, hz0, hz1, hz2⟩ := info_parts infoI
  refine wpList_append_own w hgd s x 90 ho base 2 i0 (.int .i64 0) 1 8 Try.underlying90 hi hz0 hz1 hz2 rfl (by decide) _ n (rowsI L) hs hown ⟨g, 0, none⟩ 1 1 [.int .i64 y] hx rfl ?_ (by simp [Value.oneCell']) (by unfold maxLen; omega) (by omega) hbase ?_
  · intro j u hu
    have hj : j < 1 := (List.getElem?_eq_some_iff.1 hu).1
    rw [addr_at]
    obtain rfl : j = 0 := by omega
    simp at hu; subst hu; exact hy0
  · intro v' w' h1 h2 _
    rw [← rowsI_snoc] at h1
    obtain ⟨A', c', rfl⟩ : ∃ A' c', v' = .slice A' (n + 1) c' := by
      obtain ⟨g', cap', hv, _, _⟩ := h1.form (by omega)
      exact ⟨_, _, hv⟩
    exact h A' c' w' h1 h2
theorem own_rowI {w : World} {base n cap : Nat} {A : Option Addr} {L : List Int} (h : w.ownsRow base 2 1 (.slice A n cap) n (rowsI L)) (hp : 0 < L.length) (hl : L.length ≤ 100000) (hu : ∀ x ∈ L, -9223372036854775808 ≤ x ∧ x ≤ 9223372036854775807) :
    n = L.length ∧ ∃ b, A = some ⟨b, 0, none⟩ ∧ RowI w b 0 L.length (fun i => L.getD i 0) := by
  have hn : n = L.length := by
    have := h.1
    simp [rowsI] at this
    omega
  subst hn
  refine ⟨rfl, ?_⟩
  obtain ⟨g, cap', hv, _, _⟩ := h.form (by omega)
  injection hv with e1 e2 e3
  subst e1
  refine ⟨g, rfl, by omega, fun i hi => ?_⟩
  have hx : L[i]? = some L[i] := List.getElem?_eq_getElem hi
  have e : L.getD i 0 = L[i] := by simp [List.getD, hx]
  show w.cell? ⟨g, 0 + i, none⟩ = some (.int .i64 (L.getD i 0)) ∧ -9223372036854775808 ≤ L.getD i 0 ∧ L.getD i 0 ≤ 9223372036854775807
  rw [e]
  refine ⟨?_, (hu _ (List.getElem_mem hi)).1, (hu _ (List.getElem_mem hi)).2⟩
  rw [Nat.zero_add, h.cellAt i (by omega)]
  simp [rowsI, hx]
theorem refaddint_two (b cap : Nat) (x y : Int) (w : World) (hx : w.cell? ⟨b, 0, none⟩ = some (.int .i64 x)) (hy : w.cell? ⟨b, 1, none⟩ = some (.int .i64 y)) (hx1 : inI64 x) (hy1 : inI64 y) (s : Int) (hs : x + y = s) :
    Calls Try.prog 46 #[.slice (some ⟨b, 0, none⟩) 2 cap] w fun e w' => e = .returned (.tuple #[.int .i64 (intV s), .int .i64 (intE s)]) ∧ w = w' := by
  have := refaddint_row b 0 2 cap (fun i => if i = 0 then x else y) w ⟨by omega, fun i hi => by
    rcases (show i = 0 ∨ i = 1 by omega) with rfl | rfl
    · exact ⟨by simpa using hx, by simpa using hx1.1, by simpa using hx1.2⟩
    · exact ⟨by simpa using hy, by simpa using hy1.1, by simpa using hy1.2⟩⟩ (by omega)
  have e : sumTo (fun i => if i = 0 then x else y) 2 = s := by simp [sumTo]; omega
  rw [e] at this
  exact this
theorem OffP.gen {w : World} {P Q : List (Int × Int)} {e : Ending} {w' : World} (h : OffP w P Q e w') : ∃ A n c b, e = .returned (.tuple #[.slice A n c, .bool b]) ∧ Below w.heap.size w w' ∧ lessB P Q = b ∧ (b = true → n = (tidy (subL P Q)).length ∧ Bk w' A (tidy (subL P Q)) ∧ NewA w A) := by
  rcases h with ⟨h, rfl, hb⟩ | ⟨h, A, c, rfl, hA, hb, hn⟩
  · exact ⟨none, 0, 0, false, rfl, hb, h, fun h => by cases h⟩
  · exact ⟨A, _, c, true, rfl, hb, h, fun _ => ⟨rfl, hA, hn⟩⟩
set_option maxHeartbeats 3000000 in
set_option maxRecDepth 100000 in
theorem refsub_h (a b : HV) (A B A' B' : Option Addr) (c d c' d' : Nat) (w : World) (hP : Bk w A a.P) (hQ : Bk w B a.Q) (hP' : Bk w A' b.P) (hQ' : Bk w B' b.Q) (oa : Ok a) (ob : Ok b) :
    Calls Try.prog 18 #[.agg #[.int .i64 a.k, .int .i64 a.s, .int .i64 a.z, .int .u64 a.zc, .int .u64 a.ct, .int .i64 a.sm, .slice A a.P.length c, .slice B a.Q.length d], .agg #[.int .i64 b.k, .int .i64 b.s, .int .i64 b.z, .int .u64 b.zc, .int .u64 b.ct, .int .i64 b.sm, .slice A' b.P.length c', .slice B' b.Q.length d']] w (fun e w' => ∃ x y, Two a b x y ∧ RetH w (mSubO x y) (mSubE x y) e w') := by
  have HO := Lib.hid (And.intro oa ob)
  have bx0 := ((Box.new w (.int .i64 a.k) (.int .i64 a.s) (.int .i64 a.z) (.int .u64 a.zc) (.int .u64 a.ct) (.int .i64 a.sm) (.slice A a.P.length c) (.slice B a.Q.length d)).alloc (.cells #[.int .i64 b.k, .int .i64 b.s, .int .i64 b.z, .int .u64 b.zc, .int .u64 b.ct, .int .i64 b.sm, .slice A' b.P.length c', .slice B' b.Q.length d'] 25)).alloc (.cells #[.int .i64 0, .int .i64 0, .int .i64 0, .int .u64 0, .int .u64 0, .int .i64 0, .slice none 0 0, .slice none 0 0] 25)
  have bx1 := (Box.newAt (w.alloc (.cells #[.int .i64 a.k, .int .i64 a.s, .int .i64 a.z, .int .u64 a.zc, .int .u64 a.ct, .int .i64 a.sm, .slice A a.P.length c, .slice B a.Q.length d] 25)) (w.heap.size + 1) (by simp) (.int .i64 b.k) (.int .i64 b.s) (.int .i64 b.z) (.int .u64 b.zc) (.int .u64 b.ct) (.int .i64 b.sm) (.slice A' b.P.length c') (.slice B' b.Q.length d')).alloc (.cells #[.int .i64 0, .int .i64 0, .int .i64 0, .int .u64 0, .int .u64 0, .int .i64 0, .slice none 0 0, .slice none 0 0] 25)
  have bx2 := Box.newAt ((w.alloc (.cells #[.int .i64 a.k, .int .i64 a.s, .int .i64 a.z, .int .u64 a.zc, .int .u64 a.ct, .int .i64 a.sm, .slice A a.P.length c, .slice B a.Q.length d] 25)).alloc (.cells #[.int .i64 b.k, .int .i64 b.s, .int .i64 b.z, .int .u64 b.zc, .int .u64 b.ct, .int .i64 b.sm, .slice A' b.P.length c', .slice B' b.Q.length d'] 25)) (w.heap.size + 1 + 1) (by simp) (.int .i64 0) (.int .i64 0) (.int .i64 0) (.int .u64 0) (.int .u64 0) (.int .i64 0) (.slice none 0 0) (.slice none 0 0)
  have hb := (((Below.refl w.heap.size w).alloc (Nat.le_refl _) (.cells #[.int .i64 a.k, .int .i64 a.s, .int .i64 a.z, .int .u64 a.zc, .int .u64 a.ct, .int .i64 a.sm, .slice A a.P.length c, .slice B a.Q.length d] 25)).alloc (by simp) (.cells #[.int .i64 b.k, .int .i64 b.s, .int .i64 b.z, .int .u64 b.zc, .int .u64 b.ct, .int .i64 b.sm, .slice A' b.P.length c', .slice B' b.Q.length d'] 25)).alloc (by simp; omega) (.cells #[.int .i64 0, .int .i64 0, .int .i64 0, .int .u64 0, .int .u64 0, .int .i64 0, .slice none 0 0, .slice none 0 0] 25)
  have HX0 := Lib.hid (And.intro bx0 (And.intro bx1 bx2))
  have HB0 := Lib.hid hb
  have HK0 := Lib.hid (And.intro (And.intro (hP.below hb) (hQ.below hb)) (And.intro (hP'.below hb) (hQ'.below hb)))
  have sa := oa.sm
  have sb := ob.sm
  have sa1 := sa.1
  have sa2 := sa.2
  have sb1 := sb.1
  have sb2 := sb.2
  clear hP hQ hP' hQ' oa ob bx0 bx1 bx2 hb
  obtain ⟨S, hS⟩ : ∃ s, a.sm - b.sm = s := ⟨_, rfl⟩
  have HS := Lib.hid hS
  obtain ⟨SV, hSV⟩ : ∃ s, intV S = s := ⟨_, rfl⟩
  obtain ⟨SE, hSE⟩ : ∃ s, intE S = s := ⟨_, rfl⟩
  have HSV := Lib.hid (And.intro hSV hSE)
  clear hS hSV hSE
  go_enter Try.func18, Try.ntmps18
  by_cases hl : b.sm = -9223372036854775808
  · have hl1 : (b.sm == -9223372036854775808) = true := by simpa using hl
    obtain ⟨n1, hn1⟩ : ∃ n, b.sm + 1 = n := ⟨_, rfl⟩
    obtain ⟨n2, hn2⟩ : ∃ n, -n1 = n := ⟨_, rfl⟩
    have m1 : -9223372036854775808 ≤ n1 := by omega
    have m2 : n1 ≤ 9223372036854775807 := by omega
    have m3 : -9223372036854775808 ≤ n2 := by omega
    have m4 : n2 ≤ 9223372036854775807 := by omega
    have HNB := Lib.hid (show a.sm + n2 + 1 = S from by rw [← HS.out]; omega)
    have HI := Lib.hid (And.intro sa (show inI64 n2 from ⟨m3, m4⟩))
    clear hl
    go_upto_region 7 with fail
    clear sa sb sa1 sa2 sb1 sb2 hl1 m1 m2 m3 m4 hn1 hn2
    have hs0 : (((w.alloc (.cells #[.int .i64 a.k, .int .i64 a.s, .int .i64 a.z, .int .u64 a.zc, .int .u64 a.ct, .int .i64 a.sm, .slice A a.P.length c, .slice B a.Q.length d] 25)).alloc (.cells #[.int .i64 b.k, .int .i64 b.s, .int .i64 b.z, .int .u64 b.zc, .int .u64 b.ct, .int .i64 b.sm, .slice A' b.P.length c', .slice B' b.Q.length d'] 25)).alloc (.cells #[.int .i64 0, .int .i64 0, .int .i64 0, .int .u64 0, .int .u64 0, .int .i64 0, .slice none 0 0, .slice none 0 0] 25)).heap.size = w.heap.size + 1 + 1 + 1 := by simp
    generalize (((w.alloc (.cells #[.int .i64 a.k, .int .i64 a.s, .int .i64 a.z, .int .u64 a.zc, .int .u64 a.ct, .int .i64 a.sm, .slice A a.P.length c, .slice B a.Q.length d] 25)).alloc (.cells #[.int .i64 b.k, .int .i64 b.s, .int .i64 b.z, .int .u64 b.zc, .int .u64 b.ct, .int .i64 b.sm, .slice A' b.P.length c', .slice B' b.Q.length d'] 25)).alloc (.cells #[.int .i64 0, .int .i64 0, .int .i64 0, .int .u64 0, .int .u64 0, .int .i64 0, .slice none 0 0, .slice none 0 0] 25)) = w0 at *
    have hw : Below w0.heap.size w0 (w0.alloc (.cells #[.int .i64 a.sm, .int .i64 n2] 2)) := (Below.refl _ _).alloc (Nat.le_refl _) _
    have HX1 := Lib.hid (And.intro (HX0.out.1.below hw) (And.intro (HX0.out.2.1.below hw) (HX0.out.2.2.below hw)))
    have HB1 := Lib.hid (HB0.out.trans (hw.mono HB0.out.size))
    have HKx := Lib.hid (And.intro (And.intro (HK0.out.1.1.below hw) (HK0.out.1.2.below hw)) (And.intro (HK0.out.2.1.below hw) (HK0.out.2.2.below hw)))
    have how := ownsI_two w0 a.sm n2
    rw [hs0] at how
    have HOW := Lib.hid how
    have HSZ := Lib.hid (show w.heap.size + 1 + 1 + 1 < (w0.alloc (.cells #[.int .i64 a.sm, .int .i64 n2] 2)).heap.size by simp; omega)
    have HN0 := Lib.hid (And.intro (And.intro (HK0.out.1.1.ne_lt (Nat.le_refl _)) (HK0.out.1.2.ne_lt (Nat.le_refl _))) (And.intro (HK0.out.2.1.ne_lt (Nat.le_refl _)) (HK0.out.2.2.ne_lt (Nat.le_refl _))))
    rw [hs0] at HN0
    clear hs0 how hw HX0 HB0 HK0
    generalize w0.alloc (.cells #[.int .i64 a.sm, .int .i64 n2] 2) = wz at *
    go_wp2_with (at_builtin; refine app_i64 rfl _ _ rfl (w.heap.size + 1 + 1 + 1) (some ⟨w.heap.size + 1 + 1 + 1, 0, none⟩) 2 2 [a.sm, n2] rfl ?c0 (wz.heap.size) rfl 1 ?c1 ?c2 ?c3 ?_)
    case c0 => exact HOW.out.alloc _
    case c1 => exact new_oneU _ _ _
    case c2 => omega
    case c3 => have := HSZ.out; simp; omega
    intro A9 c9 w1 hown hgrow
    have hal : Below wz.heap.size wz (wz.alloc (.cells #[.int .i64 1] 2)) := (Below.refl _ _).alloc (Nat.le_refl _) _
    have hob : (Value.slice (some ⟨w.heap.size + 1 + 1 + 1, 0, none⟩) 2 2).ownBlock = some (w.heap.size + 1 + 1 + 1) := rfl
    rw [hob] at hgrow
    have ne_ : ∀ g : Nat, g < w.heap.size + 1 + 1 + 1 → some g ≠ some (w.heap.size + 1 + 1 + 1) := fun g hg e => by injection e with e; omega
    have nb_ : ∀ {p : Prop} {A_ : Option Addr}, (p ∨ ∀ a, A_ = some a → a.block ≠ w.heap.size + 1 + 1 + 1) → p ∨ ∀ a, A_ = some a → some a.block ≠ some (w.heap.size + 1 + 1 + 1) := fun h => h.imp id fun f a ha e => by injection e with e; exact f a ha e
    have HX9 := Lib.hid (And.intro ((HX1.out.1.below hal).grown hgrow (ne_ _ (by omega))) (And.intro ((HX1.out.2.1.below hal).grown hgrow (ne_ _ (by omega))) ((HX1.out.2.2.below hal).grown hgrow (ne_ _ (by omega)))))
    have HB9 := Lib.hid ((HB1.out.trans (hal.mono HB1.out.size)).grown hgrow (by have := HB1.out.size; simp; omega) (fun k hk => by injection hk with hk; omega))
    have HK1 := Lib.hid (And.intro (And.intro ((HKx.out.1.1.below hal).grown hgrow (nb_ HN0.out.1.1)) ((HKx.out.1.2.below hal).grown hgrow (nb_ HN0.out.1.2))) (And.intro ((HKx.out.2.1.below hal).grown hgrow (nb_ HN0.out.2.1)) ((HKx.out.2.2.below hal).grown hgrow (nb_ HN0.out.2.2))))
    clear HX1 HB1
    have HX1 := HX9
    have HB1 := HB9
    obtain ⟨_, b9, rfl, hrow⟩ := own_rowI (L := [a.sm, n2, 1]) hown (by simp) (by simp) (fun x hx => by
      have h1 := HI.out.1
      have h2 := HI.out.2
      unfold inI64 at h1 h2
      rcases List.mem_cons.1 hx with rfl | hx
      · omega
      · rcases List.mem_cons.1 hx with rfl | hx
        · omega
        · rw [List.mem_singleton.1 hx]; omega)
    have hsum : sumTo (fun i => [a.sm, n2, 1].getD i 0) 3 = S := by have := HNB.out; simp [sumTo]; omega
    have hadd := refaddint_row b9 0 3 c9 _ w1 hrow (by omega)
    rw [hsum, HSV.out.1, HSV.out.2] at hadd
    have HADD := Lib.hid hadd
    clear hown hgrow hal hob ne_ nb_ HX9 HB9 hrow hsum hadd HKx HOW HSZ HN0 HNB HI
    go_wp2_with fail
    refine HADD.out.mono ?_
    rintro e w1' ⟨rfl, rfl⟩
    clear HADD
    obtain ⟨x0, x1, x2, x3, x4, x5, x6, x7⟩ := HX1.out.1.cells
    obtain ⟨y0, y1, y2, y3, y4, y5, y6, y7⟩ := HX1.out.2.1.cells
    have l0 := HX1.out.1.lt
    have l1 := HX1.out.2.1.lt
    go_wp2_with fail
    clear x0 x1 x2 x3 x4 x5 x6 x7 y0 y1 y2 y3 y4 y5 y6 y7 l0 l1
    refine (refalike_any a b A B A' B' c d c' d' w1 HK1.out.1.1 HK1.out.1.2 HK1.out.2.1 HK1.out.2.2 HO.out.1 HO.out.2 _ _ rfl rfl).mono ?_
    rintro e w2 ⟨x, y, hk, A1, B1, A2, B2, c1, d1, c2, d2, rfl, ⟨hA1, hB1, hA2, hB2⟩, hb, nA1, nB1, nA2, nB2⟩
    have HT := Lib.hid (show Two a b x y from ⟨hk, HO.out.1, HO.out.2⟩)
    have HLt := Lib.hid (And.intro HX1.out.1.lt HX1.out.2.1.lt)
    have HX2 := Lib.hid (And.intro (HX1.out.1.below hb) (And.intro (HX1.out.2.1.below hb) (HX1.out.2.2.below hb)))
    have HB2 := Lib.hid (HB1.out.trans (hb.mono HB1.out.size))
    have HA2 := Lib.hid (And.intro (And.intro hA1 hB1) (And.intro hA2 hB2))
    have HN2 := Lib.hid (And.intro (And.intro nA1 nB1) (And.intro nA2 nB2))
    have HS2 := Lib.hid (Nat.le_trans HB1.out.size hb.size)
    clear hk hA1 hB1 hA2 hB2 hb nA1 nB1 nA2 nB2 HX1 HB1 HK1
    obtain ⟨x0, x1, x2, x3, x4, x5, x6, x7⟩ := HX2.out.1.cells
    obtain ⟨y0, y1, y2, y3, y4, y5, y6, y7⟩ := HX2.out.2.1.cells
    have l0 := HX2.out.1.lt
    have l1 := HX2.out.2.1.lt
    obtain ⟨f0, f1, f2, f3, f4, f5, f6, f7⟩ := HX2.out.1.frozen
    obtain ⟨g0, g1, g2, g3, g4, g5, g6, g7⟩ := HX2.out.2.1.frozen
    simp only [hvA]
    go_wp2_with fail
    clear x0 x1 x2 x3 x4 x5 x6 x7 y0 y1 y2 y3 y4 y5 y6 y7 l0 l1 f0 f1 f2 f3 f4 f5 f6 f7 g0 g1 g2 g3 g4 g5 g6 g7
    have HX3 := Lib.hid (And.intro (Box.off8 (HX2.out.1.put8 (.int .i64 x.k) (.int .i64 x.s) (.int .i64 x.z) (.int .u64 x.zc) (.int .u64 x.ct) (.int .i64 x.sm) (.slice A1 x.P.length c1) (.slice B1 x.Q.length d1)) (show w.heap.size ≠ w.heap.size + 1 by omega) (.int .i64 y.k) (.int .i64 y.s) (.int .i64 y.z) (.int .u64 y.zc) (.int .u64 y.ct) (.int .i64 y.sm) (.slice A2 y.P.length c2) (.slice B2 y.Q.length d2)) (And.intro (Box.put8 (HX2.out.2.1.off8 (show w.heap.size + 1 ≠ w.heap.size by omega) (.int .i64 x.k) (.int .i64 x.s) (.int .i64 x.z) (.int .u64 x.zc) (.int .u64 x.ct) (.int .i64 x.sm) (.slice A1 x.P.length c1) (.slice B1 x.Q.length d1)) (.int .i64 y.k) (.int .i64 y.s) (.int .i64 y.z) (.int .u64 y.zc) (.int .u64 y.ct) (.int .i64 y.sm) (.slice A2 y.P.length c2) (.slice B2 y.Q.length d2)) (Box.off8 (HX2.out.2.2.off8 (show w.heap.size + 1 + 1 ≠ w.heap.size by omega) (.int .i64 x.k) (.int .i64 x.s) (.int .i64 x.z) (.int .u64 x.zc) (.int .u64 x.ct) (.int .i64 x.sm) (.slice A1 x.P.length c1) (.slice B1 x.Q.length d1)) (show w.heap.size + 1 + 1 ≠ w.heap.size + 1 by omega) (.int .i64 y.k) (.int .i64 y.s) (.int .i64 y.z) (.int .u64 y.zc) (.int .u64 y.ct) (.int .i64 y.sm) (.slice A2 y.P.length c2) (.slice B2 y.Q.length d2))))
    have HB3 := Lib.hid (below_set8 (below_set8 HB2.out (Nat.le_refl _) (.int .i64 x.k) (.int .i64 x.s) (.int .i64 x.z) (.int .u64 x.zc) (.int .u64 x.ct) (.int .i64 x.sm) (.slice A1 x.P.length c1) (.slice B1 x.Q.length d1)) (by omega : w.heap.size ≤ w.heap.size + 1) (.int .i64 y.k) (.int .i64 y.s) (.int .i64 y.z) (.int .u64 y.zc) (.int .u64 y.ct) (.int .i64 y.sm) (.slice A2 y.P.length c2) (.slice B2 y.Q.length d2))
    have HA3 := Lib.hid (And.intro (And.intro ((HA2.out.1.1.set8 (HN2.out.1.1.ne HLt.out.1) (.int .i64 x.k) (.int .i64 x.s) (.int .i64 x.z) (.int .u64 x.zc) (.int .u64 x.ct) (.int .i64 x.sm) (.slice A1 x.P.length c1) (.slice B1 x.Q.length d1)).set8 (HN2.out.1.1.ne HLt.out.2) (.int .i64 y.k) (.int .i64 y.s) (.int .i64 y.z) (.int .u64 y.zc) (.int .u64 y.ct) (.int .i64 y.sm) (.slice A2 y.P.length c2) (.slice B2 y.Q.length d2)) ((HA2.out.1.2.set8 (HN2.out.1.2.ne HLt.out.1) (.int .i64 x.k) (.int .i64 x.s) (.int .i64 x.z) (.int .u64 x.zc) (.int .u64 x.ct) (.int .i64 x.sm) (.slice A1 x.P.length c1) (.slice B1 x.Q.length d1)).set8 (HN2.out.1.2.ne HLt.out.2) (.int .i64 y.k) (.int .i64 y.s) (.int .i64 y.z) (.int .u64 y.zc) (.int .u64 y.ct) (.int .i64 y.sm) (.slice A2 y.P.length c2) (.slice B2 y.Q.length d2))) (And.intro ((HA2.out.2.1.set8 (HN2.out.2.1.ne HLt.out.1) (.int .i64 x.k) (.int .i64 x.s) (.int .i64 x.z) (.int .u64 x.zc) (.int .u64 x.ct) (.int .i64 x.sm) (.slice A1 x.P.length c1) (.slice B1 x.Q.length d1)).set8 (HN2.out.2.1.ne HLt.out.2) (.int .i64 y.k) (.int .i64 y.s) (.int .i64 y.z) (.int .u64 y.zc) (.int .u64 y.ct) (.int .i64 y.sm) (.slice A2 y.P.length c2) (.slice B2 y.Q.length d2)) ((HA2.out.2.2.set8 (HN2.out.2.2.ne HLt.out.1) (.int .i64 x.k) (.int .i64 x.s) (.int .i64 x.z) (.int .u64 x.zc) (.int .u64 x.ct) (.int .i64 x.sm) (.slice A1 x.P.length c1) (.slice B1 x.Q.length d1)).set8 (HN2.out.2.2.ne HLt.out.2) (.int .i64 y.k) (.int .i64 y.s) (.int .i64 y.z) (.int .u64 y.zc) (.int .u64 y.ct) (.int .i64 y.sm) (.slice A2 y.P.length c2) (.slice B2 y.Q.length d2))))
    generalize hW : ((((((((((((((((w2.setCell ⟨w.heap.size, 0, none⟩ (.int .i64 x.k)).setCell ⟨w.heap.size, 1, none⟩ (.int .i64 x.s)).setCell ⟨w.heap.size, 2, none⟩ (.int .i64 x.z)).setCell ⟨w.heap.size, 3, none⟩ (.int .u64 x.zc)).setCell ⟨w.heap.size, 4, none⟩ (.int .u64 x.ct)).setCell ⟨w.heap.size, 5, none⟩ (.int .i64 x.sm)).setCell ⟨w.heap.size, 6, none⟩ (.slice A1 x.P.length c1)).setCell ⟨w.heap.size, 7, none⟩ (.slice B1 x.Q.length d1)).setCell ⟨w.heap.size + 1, 0, none⟩ (.int .i64 y.k)).setCell ⟨w.heap.size + 1, 1, none⟩ (.int .i64 y.s)).setCell ⟨w.heap.size + 1, 2, none⟩ (.int .i64 y.z)).setCell ⟨w.heap.size + 1, 3, none⟩ (.int .u64 y.zc)).setCell ⟨w.heap.size + 1, 4, none⟩ (.int .u64 y.ct)).setCell ⟨w.heap.size + 1, 5, none⟩ (.int .i64 y.sm)).setCell ⟨w.heap.size + 1, 6, none⟩ (.slice A2 y.P.length c2)).setCell ⟨w.heap.size + 1, 7, none⟩ (.slice B2 y.Q.length d2)) = w3
    have hW' : set8 (set8 w2 (w.heap.size) (.int .i64 x.k) (.int .i64 x.s) (.int .i64 x.z) (.int .u64 x.zc) (.int .u64 x.ct) (.int .i64 x.sm) (.slice A1 x.P.length c1) (.slice B1 x.Q.length d1)) (w.heap.size + 1) (.int .i64 y.k) (.int .i64 y.s) (.int .i64 y.z) (.int .u64 y.zc) (.int .u64 y.ct) (.int .i64 y.sm) (.slice A2 y.P.length c2) (.slice B2 y.Q.length d2) = w3 := hW
    rw [hW'] at HX3 HB3 HA3
    clear hW hW' HX2 HB2 HA2 HN2
    have HXY := Lib.hid HT.out.is
    refine (refoff_any A1 A2 c1 c2 x.P y.P w3 HA3.out.1.1 HA3.out.2.1 HXY.out.ox.aP HXY.out.oy.aP HXY.out.ox.nP HXY.out.oy.pP (by have := HXY.out.ox.lP; omega) (by have := HXY.out.oy.lP; omega)).mono ?_
    intro e w4 hL
    obtain ⟨A3, n3, c3, b3, rfl, hb, hb3, hy3⟩ := hL.gen
    have HLz := Lib.hid HX3.out.2.2.lt
    have HY3 := Lib.hid (And.intro hb3 (show b3 = true → n3 = (tidy (subL x.P y.P)).length ∧ Bk w4 A3 (tidy (subL x.P y.P)) ∧ NewA w3 A3 from hy3))
    have HS4 := Lib.hid (And.intro HB3.out.size hb.size)
    have HX4 := Lib.hid (And.intro (HX3.out.1.below hb) (And.intro (HX3.out.2.1.below hb) (HX3.out.2.2.below hb)))
    have HB4 := Lib.hid (HB3.out.trans (hb.mono HB3.out.size))
    have HA4 := Lib.hid (And.intro (HA3.out.1.2.below hb) (HA3.out.2.2.below hb))
    clear hL hb hb3 hy3 HX3 HB3 HA3
    obtain ⟨x0, x1, x2, x3, x4, x5, x6, x7⟩ := HX4.out.1.cells
    obtain ⟨y0, y1, y2, y3, y4, y5, y6, y7⟩ := HX4.out.2.1.cells
    have l0 := HX4.out.1.lt
    have l1 := HX4.out.2.1.lt
    go_wp2_with fail
    clear x0 x1 x2 x3 x4 x5 x6 x7 y0 y1 y2 y3 y4 y5 y6 y7 l0 l1
    refine (refoff_any B1 B2 d1 d2 x.Q y.Q w4 HA4.out.1 HA4.out.2 HXY.out.ox.aQ HXY.out.oy.aQ HXY.out.ox.nQ HXY.out.oy.pQ (by have := HXY.out.ox.lQ; omega) (by have := HXY.out.oy.lQ; omega)).mono ?_
    intro e w5 hL
    obtain ⟨B3, m3, d3, b4, rfl, hb, hb4, hy4⟩ := hL.gen
    have HY4 := Lib.hid (And.intro hb4 (show b4 = true → m3 = (tidy (subL x.Q y.Q)).length ∧ Bk w5 B3 (tidy (subL x.Q y.Q)) ∧ NewA w3 B3 from fun h => ⟨(hy4 h).1, (hy4 h).2.1, (hy4 h).2.2.mono HS4.out.2⟩))
    have HY5 := Lib.hid (show lessB x.P y.P = b3 ∧ (b3 = true → n3 = (tidy (subL x.P y.P)).length ∧ Bk w5 A3 (tidy (subL x.P y.P)) ∧ NewA w3 A3) from ⟨HY3.out.1, fun h => ⟨(HY3.out.2 h).1, (HY3.out.2 h).2.1.below hb, (HY3.out.2 h).2.2⟩⟩)
    have HX5 := Lib.hid (And.intro (HX4.out.1.below hb) (And.intro (HX4.out.2.1.below hb) (HX4.out.2.2.below hb)))
    have HB5 := Lib.hid (HB4.out.trans (hb.mono HB4.out.size))
    clear hL hb hb4 hy4 HX4 HB4 HA4 HY3
    obtain ⟨x0, x1, x2, x3, x4, x5, x6, x7⟩ := HX5.out.1.cells
    obtain ⟨y0, y1, y2, y3, y4, y5, y6, y7⟩ := HX5.out.2.1.cells
    have l0 := HX5.out.1.lt
    have l1 := HX5.out.2.1.lt
    cases b3 with
    | false =>
      have hso : subOk x y = false := by unfold subOk; rw [HY5.out.1, Bool.false_and, Bool.and_false]
      have hE : mSubE x y = 21 := by unfold mSubE; rw [hso, if_neg (by decide)]
      have HE := Lib.hid (show ∃ x y, Two a b x y ∧ RetH w (mSubO x y) (mSubE x y) (.returned (.tuple #[.agg #[.int .i64 0, .int .i64 0, .int .i64 0, .int .u64 0, .int .u64 0, .int .i64 0, .slice none 0 0, .slice none 0 0], .int .i64 21])) (set8 w5 (w.heap.size + 1 + 1) (.int .i64 0) (.int .i64 0) (.int .i64 0) (.int .u64 0) (.int .u64 0) (.int .i64 0) (.slice none 0 0) (.slice none 0 0)) from ⟨x, y, HT.out, (RetH.zero (E := 21) (below_set8 HB5.out (by omega : w.heap.size ≤ w.heap.size + 1 + 1) (.int .i64 0) (.int .i64 0) (.int .i64 0) (.int .u64 0) (.int .u64 0) (.int .i64 0) (.slice none 0 0) (.slice none 0 0))).as (by unfold mSubO; rw [hE, if_neg (by decide)]) hE.symm⟩)
      clear hE
      obtain ⟨z0, z1, z2, z3, z4, z5, z6, z7⟩ := HX5.out.2.2.cells
      obtain ⟨h0, h1, h2, h3, h4, h5, h6, h7⟩ := HX5.out.2.2.frozen
      have l2 := HX5.out.2.2.lt
      go_wp2_with fail
      exact bodyPost_ret (v := .tuple #[.agg #[.int .i64 0, .int .i64 0, .int .i64 0, .int .u64 0, .int .u64 0, .int .i64 0, .slice none 0 0, .slice none 0 0], .int .i64 21]) (by simp [results, Try.results18, go_sem, z0, z1, z2, z3, z4, z5, z6, z7]) rfl HE.out
    | true =>
      cases b4 with
      | false =>
        have hso : subOk x y = false := by unfold subOk; rw [HY4.out.1, Bool.and_false, Bool.and_false]
        have hE : mSubE x y = 21 := by unfold mSubE; rw [hso, if_neg (by decide)]
        have HE := Lib.hid (show ∃ x y, Two a b x y ∧ RetH w (mSubO x y) (mSubE x y) (.returned (.tuple #[.agg #[.int .i64 0, .int .i64 0, .int .i64 0, .int .u64 0, .int .u64 0, .int .i64 0, .slice none 0 0, .slice none 0 0], .int .i64 21])) (set8 w5 (w.heap.size + 1 + 1) (.int .i64 0) (.int .i64 0) (.int .i64 0) (.int .u64 0) (.int .u64 0) (.int .i64 0) (.slice none 0 0) (.slice none 0 0)) from ⟨x, y, HT.out, (RetH.zero (E := 21) (below_set8 HB5.out (by omega : w.heap.size ≤ w.heap.size + 1 + 1) (.int .i64 0) (.int .i64 0) (.int .i64 0) (.int .u64 0) (.int .u64 0) (.int .i64 0) (.slice none 0 0) (.slice none 0 0))).as (by unfold mSubO; rw [hE, if_neg (by decide)]) hE.symm⟩)
        clear hE
        obtain ⟨z0, z1, z2, z3, z4, z5, z6, z7⟩ := HX5.out.2.2.cells
        obtain ⟨h0, h1, h2, h3, h4, h5, h6, h7⟩ := HX5.out.2.2.frozen
        have l2 := HX5.out.2.2.lt
        go_wp2_with fail
        exact bodyPost_ret (v := .tuple #[.agg #[.int .i64 0, .int .i64 0, .int .i64 0, .int .u64 0, .int .u64 0, .int .i64 0, .slice none 0 0, .slice none 0 0], .int .i64 21]) (by simp [results, Try.results18, go_sem, z0, z1, z2, z3, z4, z5, z6, z7]) rfl HE.out
      | true =>
        by_cases hz : x.zc < y.zc
        · have dz : decide (x.zc < y.zc) = true := by simpa using hz
          have hso : subOk x y = false := by unfold subOk; rw [decide_eq_false (by omega), Bool.false_and]
          clear hz
          have hE : mSubE x y = 21 := by unfold mSubE; rw [hso, if_neg (by decide)]
          have HE := Lib.hid (show ∃ x y, Two a b x y ∧ RetH w (mSubO x y) (mSubE x y) (.returned (.tuple #[.agg #[.int .i64 0, .int .i64 0, .int .i64 0, .int .u64 0, .int .u64 0, .int .i64 0, .slice none 0 0, .slice none 0 0], .int .i64 21])) (set8 w5 (w.heap.size + 1 + 1) (.int .i64 0) (.int .i64 0) (.int .i64 0) (.int .u64 0) (.int .u64 0) (.int .i64 0) (.slice none 0 0) (.slice none 0 0)) from ⟨x, y, HT.out, (RetH.zero (E := 21) (below_set8 HB5.out (by omega : w.heap.size ≤ w.heap.size + 1 + 1) (.int .i64 0) (.int .i64 0) (.int .i64 0) (.int .u64 0) (.int .u64 0) (.int .i64 0) (.slice none 0 0) (.slice none 0 0))).as (by unfold mSubO; rw [hE, if_neg (by decide)]) hE.symm⟩)
          clear hE
          obtain ⟨z0, z1, z2, z3, z4, z5, z6, z7⟩ := HX5.out.2.2.cells
          obtain ⟨h0, h1, h2, h3, h4, h5, h6, h7⟩ := HX5.out.2.2.frozen
          have l2 := HX5.out.2.2.lt
          go_wp2_with fail
          exact bodyPost_ret (v := .tuple #[.agg #[.int .i64 0, .int .i64 0, .int .i64 0, .int .u64 0, .int .u64 0, .int .i64 0, .slice none 0 0, .slice none 0 0], .int .i64 21]) (by simp [results, Try.results18, go_sem, z0, z1, z2, z3, z4, z5, z6, z7]) rfl HE.out
        · have dz : decide (x.zc < y.zc) = false := by simpa using hz
          have hso : subOk x y = true := by unfold subOk; rw [HY4.out.1, HY5.out.1, decide_eq_true (by omega)]; rfl
          have hzc : y.zc ≤ x.zc := by omega
          clear hz
          by_cases hi : inI64 S
          · obtain rfl : SV = S := by rw [← HSV.out.1]; exact (int_fits hi).1
            obtain rfl : SE = 0 := by rw [← HSV.out.2]; exact (int_fits hi).2
            have hsm : x.sm - y.sm = SV := by rw [HXY.out.xm, HXY.out.ym]; exact HS.out
            have hE : mSubE x y = 0 := by unfold mSubE; rw [if_pos hso, hsm, if_pos hi]
            have hok := sub_ok HXY.out.ox HXY.out.oy hso (by rw [hsm]; exact hi)
            obtain ⟨ZV, hZV⟩ : ∃ v, x.zc - y.zc = v := ⟨_, rfl⟩
            obtain ⟨CV, hCV⟩ : ∃ v, x.ct - y.ct = v := ⟨_, rfl⟩
            have z0_ : 0 ≤ ZV := by omega
            have z1_ : ZV ≤ 18446744073709551615 := by have := HXY.out.ox.toGood.z1; have := HXY.out.oy.zc; omega
            have c0_ : 0 ≤ CV := by
              have h1 : x.zc - y.zc + cnt (tidy (subL x.P y.P)) + cnt (tidy (subL x.Q y.Q)) = x.ct - y.ct := hok.ct
              have h2 := hok.nP.cnt
              have h3 := hok.nQ.cnt
              have h4 : 0 ≤ cnt (tidy (subL x.P y.P)) := h2
              have h5 : 0 ≤ cnt (tidy (subL x.Q y.Q)) := h3
              omega
            have c1_ : CV ≤ 18446744073709551615 := by have h : x.ct - y.ct ≤ 18446744073709551615 := hok.big; omega
            have HRR := Lib.hid (show mSubO x y = ⟨x.k, x.s, x.z, ZV, CV, SV, tidy (subL x.P y.P), tidy (subL x.Q y.Q)⟩ from by unfold mSubO; rw [if_pos hE]; exact HV.eq rfl rfl rfl hZV hCV hsm rfl rfl)
            have HEE := Lib.hid hE
            obtain ⟨rfl, hA3, nA3⟩ := HY5.out.2 rfl
            obtain ⟨rfl, hB3, nB3⟩ := HY4.out.2 rfl
            have HR5 := Lib.hid (And.intro (And.intro hA3 hB3) (And.intro nA3 nB3))
            clear hA3 hB3 nA3 nB3 hso hzc hi hsm hE hok
            obtain ⟨z0, z1, z2, z3, z4, z5, z6, z7⟩ := HX5.out.2.2.cells
            obtain ⟨h0, h1, h2, h3, h4, h5, h6, h7⟩ := HX5.out.2.2.frozen
            have l2 := HX5.out.2.2.lt
            go_wp2_with fail
            clear x0 x1 x2 x3 x4 x5 x6 x7 y0 y1 y2 y3 y4 y5 y6 y7 l0 l1 z0 z1 z2 z3 z4 z5 z6 z7 h0 h1 h2 h3 h4 h5 h6 h7 l2
            have hal : Below (set8 w5 (w.heap.size + 1 + 1) (.int .i64 x.k) (.int .i64 x.s) (.int .i64 x.z) (.int .u64 ZV) (.int .u64 CV) (.int .i64 SV) (.slice A3 (tidy (subL x.P y.P)).length c3) (.slice B3 (tidy (subL x.Q y.Q)).length d3)).heap.size (set8 w5 (w.heap.size + 1 + 1) (.int .i64 x.k) (.int .i64 x.s) (.int .i64 x.z) (.int .u64 ZV) (.int .u64 CV) (.int .i64 SV) (.slice A3 (tidy (subL x.P y.P)).length c3) (.slice B3 (tidy (subL x.Q y.Q)).length d3)) ((set8 w5 (w.heap.size + 1 + 1) (.int .i64 x.k) (.int .i64 x.s) (.int .i64 x.z) (.int .u64 ZV) (.int .u64 CV) (.int .i64 SV) (.slice A3 (tidy (subL x.P y.P)).length c3) (.slice B3 (tidy (subL x.Q y.Q)).length d3)).alloc (.cells #[.int .i64 x.k, .int .i64 x.s, .int .i64 x.z, .int .u64 ZV, .int .u64 CV, .int .i64 SV, .slice A3 (tidy (subL x.P y.P)).length c3, .slice B3 (tidy (subL x.Q y.Q)).length d3] 25)) := (Below.refl _ _).alloc (Nat.le_refl _) _
            have HB6 := Lib.hid (below_set8 HB5.out (by omega : w.heap.size ≤ w.heap.size + 1 + 1) (.int .i64 x.k) (.int .i64 x.s) (.int .i64 x.z) (.int .u64 ZV) (.int .u64 CV) (.int .i64 SV) (.slice A3 (tidy (subL x.P y.P)).length c3) (.slice B3 (tidy (subL x.Q y.Q)).length d3))
            have HE := Lib.hid (show ∃ p q, Two a b p q ∧ RetH w (mSubO p q) (mSubE p q) (.returned (.tuple #[.agg #[.int .i64 x.k, .int .i64 x.s, .int .i64 x.z, .int .u64 ZV, .int .u64 CV, .int .i64 SV, .slice A3 (tidy (subL x.P y.P)).length c3, .slice B3 (tidy (subL x.Q y.Q)).length d3], .int .i64 0])) ((set8 w5 (w.heap.size + 1 + 1) (.int .i64 x.k) (.int .i64 x.s) (.int .i64 x.z) (.int .u64 ZV) (.int .u64 CV) (.int .i64 SV) (.slice A3 (tidy (subL x.P y.P)).length c3) (.slice B3 (tidy (subL x.Q y.Q)).length d3)).alloc (.cells #[.int .i64 x.k, .int .i64 x.s, .int .i64 x.z, .int .u64 ZV, .int .u64 CV, .int .i64 SV, .slice A3 (tidy (subL x.P y.P)).length c3, .slice B3 (tidy (subL x.Q y.Q)).length d3] 25)) from ⟨x, y, HT.out, by
              rw [HRR.out, HEE.out]
              exact ⟨A3, B3, c3, d3, rfl, (HR5.out.1.1.set8 (HR5.out.2.1.ne HLz.out) _ _ _ _ _ _ _ _).below hal, (HR5.out.1.2.set8 (HR5.out.2.2.ne HLz.out) _ _ _ _ _ _ _ _).below hal, HB6.out.trans (hal.mono HB6.out.size), HR5.out.2.1.mono HS4.out.1, HR5.out.2.2.mono HS4.out.1⟩⟩)
            have HF := Lib.hid ((HX5.out.2.2.put8 (.int .i64 x.k) (.int .i64 x.s) (.int .i64 x.z) (.int .u64 ZV) (.int .u64 CV) (.int .i64 SV) (.slice A3 (tidy (subL x.P y.P)).length c3) (.slice B3 (tidy (subL x.Q y.Q)).length d3)).alloc (.cells #[.int .i64 x.k, .int .i64 x.s, .int .i64 x.z, .int .u64 ZV, .int .u64 CV, .int .i64 SV, .slice A3 (tidy (subL x.P y.P)).length c3, .slice B3 (tidy (subL x.Q y.Q)).length d3] 25))
            clear hal
            generalize hW : ((((((((w5.setCell ⟨w.heap.size + 1 + 1, 0, none⟩ (.int .i64 x.k)).setCell ⟨w.heap.size + 1 + 1, 1, none⟩ (.int .i64 x.s)).setCell ⟨w.heap.size + 1 + 1, 2, none⟩ (.int .i64 x.z)).setCell ⟨w.heap.size + 1 + 1, 3, none⟩ (.int .u64 ZV)).setCell ⟨w.heap.size + 1 + 1, 4, none⟩ (.int .u64 CV)).setCell ⟨w.heap.size + 1 + 1, 5, none⟩ (.int .i64 SV)).setCell ⟨w.heap.size + 1 + 1, 6, none⟩ (.slice A3 (tidy (subL x.P y.P)).length c3)).setCell ⟨w.heap.size + 1 + 1, 7, none⟩ (.slice B3 (tidy (subL x.Q y.Q)).length d3)).alloc (.cells #[.int .i64 x.k, .int .i64 x.s, .int .i64 x.z, .int .u64 ZV, .int .u64 CV, .int .i64 SV, .slice A3 (tidy (subL x.P y.P)).length c3, .slice B3 (tidy (subL x.Q y.Q)).length d3] 25) = w9
            have hW' : (set8 w5 (w.heap.size + 1 + 1) (.int .i64 x.k) (.int .i64 x.s) (.int .i64 x.z) (.int .u64 ZV) (.int .u64 CV) (.int .i64 SV) (.slice A3 (tidy (subL x.P y.P)).length c3) (.slice B3 (tidy (subL x.Q y.Q)).length d3)).alloc (.cells #[.int .i64 x.k, .int .i64 x.s, .int .i64 x.z, .int .u64 ZV, .int .u64 CV, .int .i64 SV, .slice A3 (tidy (subL x.P y.P)).length c3, .slice B3 (tidy (subL x.Q y.Q)).length d3] 25) = w9 := hW
            rw [hW'] at HE HF
            obtain ⟨z0, z1, z2, z3, z4, z5, z6, z7⟩ := HF.out.cells
            exact bodyPost_ret (v := .tuple #[.agg #[.int .i64 x.k, .int .i64 x.s, .int .i64 x.z, .int .u64 ZV, .int .u64 CV, .int .i64 SV, .slice A3 (tidy (subL x.P y.P)).length c3, .slice B3 (tidy (subL x.Q y.Q)).length d3], .int .i64 0]) (by simp [results, Try.results18, go_sem, z0, z1, z2, z3, z4, z5, z6, z7]) rfl HE.out
          · obtain rfl : SE = 5 := by rw [← HSV.out.2]; exact (int_over hi).2
            have hsm : x.sm - y.sm = S := by rw [HXY.out.xm, HXY.out.ym]; exact HS.out
            have hE : mSubE x y = 5 := by unfold mSubE; rw [if_pos hso, hsm, if_neg hi]
            have HE := Lib.hid (show ∃ x y, Two a b x y ∧ RetH w (mSubO x y) (mSubE x y) (.returned (.tuple #[.agg #[.int .i64 0, .int .i64 0, .int .i64 0, .int .u64 0, .int .u64 0, .int .i64 0, .slice none 0 0, .slice none 0 0], .int .i64 5])) (set8 w5 (w.heap.size + 1 + 1) (.int .i64 0) (.int .i64 0) (.int .i64 0) (.int .u64 0) (.int .u64 0) (.int .i64 0) (.slice none 0 0) (.slice none 0 0)) from ⟨x, y, HT.out, (RetH.zero (E := 5) (below_set8 HB5.out (by omega : w.heap.size ≤ w.heap.size + 1 + 1) (.int .i64 0) (.int .i64 0) (.int .i64 0) (.int .u64 0) (.int .u64 0) (.int .i64 0) (.slice none 0 0) (.slice none 0 0))).as (by unfold mSubO; rw [hE, if_neg (by decide)]) hE.symm⟩)
            clear hE
            obtain ⟨z0, z1, z2, z3, z4, z5, z6, z7⟩ := HX5.out.2.2.cells
            obtain ⟨h0, h1, h2, h3, h4, h5, h6, h7⟩ := HX5.out.2.2.frozen
            have l2 := HX5.out.2.2.lt
            go_wp2_with fail
            exact bodyPost_ret (v := .tuple #[.agg #[.int .i64 0, .int .i64 0, .int .i64 0, .int .u64 0, .int .u64 0, .int .i64 0, .slice none 0 0, .slice none 0 0], .int .i64 5]) (by simp [results, Try.results18, go_sem, z0, z1, z2, z3, z4, z5, z6, z7]) rfl HE.out
  · have hl1 : (b.sm == -9223372036854775808) = false := by simpa using hl
    have nb1 : -9223372036854775808 ≤ -b.sm := by omega
    have nb2 : -b.sm ≤ 9223372036854775807 := by omega
    go_wp2_with fail
    obtain ⟨nb, hnb⟩ : ∃ n, -b.sm = n := ⟨_, rfl⟩
    rw [hnb]
    have HNB := Lib.hid (show a.sm + nb = S from by rw [← hnb, ← HS.out]; omega)
    have HI := Lib.hid (And.intro sa (show inI64 nb from by rw [← hnb]; exact ⟨nb1, nb2⟩))
    clear sa sb sa1 sa2 sb1 sb2 hl hl1 nb1 nb2 hnb
    have hs0 : (((w.alloc (.cells #[.int .i64 a.k, .int .i64 a.s, .int .i64 a.z, .int .u64 a.zc, .int .u64 a.ct, .int .i64 a.sm, .slice A a.P.length c, .slice B a.Q.length d] 25)).alloc (.cells #[.int .i64 b.k, .int .i64 b.s, .int .i64 b.z, .int .u64 b.zc, .int .u64 b.ct, .int .i64 b.sm, .slice A' b.P.length c', .slice B' b.Q.length d'] 25)).alloc (.cells #[.int .i64 0, .int .i64 0, .int .i64 0, .int .u64 0, .int .u64 0, .int .i64 0, .slice none 0 0, .slice none 0 0] 25)).heap.size = w.heap.size + 1 + 1 + 1 := by simp
    generalize (((w.alloc (.cells #[.int .i64 a.k, .int .i64 a.s, .int .i64 a.z, .int .u64 a.zc, .int .u64 a.ct, .int .i64 a.sm, .slice A a.P.length c, .slice B a.Q.length d] 25)).alloc (.cells #[.int .i64 b.k, .int .i64 b.s, .int .i64 b.z, .int .u64 b.zc, .int .u64 b.ct, .int .i64 b.sm, .slice A' b.P.length c', .slice B' b.Q.length d'] 25)).alloc (.cells #[.int .i64 0, .int .i64 0, .int .i64 0, .int .u64 0, .int .u64 0, .int .i64 0, .slice none 0 0, .slice none 0 0] 25)) = w0 at *
    have hw : Below w0.heap.size w0 (w0.alloc (.cells #[.int .i64 a.sm, .int .i64 nb] 2)) := (Below.refl _ _).alloc (Nat.le_refl _) _
    have HX1 := Lib.hid (And.intro (HX0.out.1.below hw) (And.intro (HX0.out.2.1.below hw) (HX0.out.2.2.below hw)))
    have HB1 := Lib.hid (HB0.out.trans (hw.mono HB0.out.size))
    have HK1 := Lib.hid (And.intro (And.intro (HK0.out.1.1.below hw) (HK0.out.1.2.below hw)) (And.intro (HK0.out.2.1.below hw) (HK0.out.2.2.below hw)))
    obtain ⟨c0_, c1_⟩ := new_twoB w0 (.int .i64 a.sm) (.int .i64 nb) 2
    rw [hs0] at c0_ c1_
    clear hs0 HX0 HB0 HK0 hw
    generalize w0.alloc (.cells #[.int .i64 a.sm, .int .i64 nb] 2) = w1 at *
    refine (refaddint_two (w.heap.size + 1 + 1 + 1) 2 a.sm nb w1 c0_ c1_ HI.out.1 HI.out.2 S HNB.out).mono ?_
    rw [HSV.out.1, HSV.out.2]
    rintro e w1' ⟨rfl, rfl⟩
    clear c0_ c1_ HNB HI
    obtain ⟨x0, x1, x2, x3, x4, x5, x6, x7⟩ := HX1.out.1.cells
    obtain ⟨y0, y1, y2, y3, y4, y5, y6, y7⟩ := HX1.out.2.1.cells
    have l0 := HX1.out.1.lt
    have l1 := HX1.out.2.1.lt
    go_wp2_with fail
    clear x0 x1 x2 x3 x4 x5 x6 x7 y0 y1 y2 y3 y4 y5 y6 y7 l0 l1
    refine (refalike_any a b A B A' B' c d c' d' w1 HK1.out.1.1 HK1.out.1.2 HK1.out.2.1 HK1.out.2.2 HO.out.1 HO.out.2 _ _ rfl rfl).mono ?_
    rintro e w2 ⟨x, y, hk, A1, B1, A2, B2, c1, d1, c2, d2, rfl, ⟨hA1, hB1, hA2, hB2⟩, hb, nA1, nB1, nA2, nB2⟩
    have HT := Lib.hid (show Two a b x y from ⟨hk, HO.out.1, HO.out.2⟩)
    have HLt := Lib.hid (And.intro HX1.out.1.lt HX1.out.2.1.lt)
    have HX2 := Lib.hid (And.intro (HX1.out.1.below hb) (And.intro (HX1.out.2.1.below hb) (HX1.out.2.2.below hb)))
    have HB2 := Lib.hid (HB1.out.trans (hb.mono HB1.out.size))
    have HA2 := Lib.hid (And.intro (And.intro hA1 hB1) (And.intro hA2 hB2))
    have HN2 := Lib.hid (And.intro (And.intro nA1 nB1) (And.intro nA2 nB2))
    have HS2 := Lib.hid (Nat.le_trans HB1.out.size hb.size)
    clear hk hA1 hB1 hA2 hB2 hb nA1 nB1 nA2 nB2 HX1 HB1 HK1
    obtain ⟨x0, x1, x2, x3, x4, x5, x6, x7⟩ := HX2.out.1.cells
    obtain ⟨y0, y1, y2, y3, y4, y5, y6, y7⟩ := HX2.out.2.1.cells
    have l0 := HX2.out.1.lt
    have l1 := HX2.out.2.1.lt
    obtain ⟨f0, f1, f2, f3, f4, f5, f6, f7⟩ := HX2.out.1.frozen
    obtain ⟨g0, g1, g2, g3, g4, g5, g6, g7⟩ := HX2.out.2.1.frozen
    simp only [hvA]
    go_wp2_with fail
    clear x0 x1 x2 x3 x4 x5 x6 x7 y0 y1 y2 y3 y4 y5 y6 y7 l0 l1 f0 f1 f2 f3 f4 f5 f6 f7 g0 g1 g2 g3 g4 g5 g6 g7
    have HX3 := Lib.hid (And.intro (Box.off8 (HX2.out.1.put8 (.int .i64 x.k) (.int .i64 x.s) (.int .i64 x.z) (.int .u64 x.zc) (.int .u64 x.ct) (.int .i64 x.sm) (.slice A1 x.P.length c1) (.slice B1 x.Q.length d1)) (show w.heap.size ≠ w.heap.size + 1 by omega) (.int .i64 y.k) (.int .i64 y.s) (.int .i64 y.z) (.int .u64 y.zc) (.int .u64 y.ct) (.int .i64 y.sm) (.slice A2 y.P.length c2) (.slice B2 y.Q.length d2)) (And.intro (Box.put8 (HX2.out.2.1.off8 (show w.heap.size + 1 ≠ w.heap.size by omega) (.int .i64 x.k) (.int .i64 x.s) (.int .i64 x.z) (.int .u64 x.zc) (.int .u64 x.ct) (.int .i64 x.sm) (.slice A1 x.P.length c1) (.slice B1 x.Q.length d1)) (.int .i64 y.k) (.int .i64 y.s) (.int .i64 y.z) (.int .u64 y.zc) (.int .u64 y.ct) (.int .i64 y.sm) (.slice A2 y.P.length c2) (.slice B2 y.Q.length d2)) (Box.off8 (HX2.out.2.2.off8 (show w.heap.size + 1 + 1 ≠ w.heap.size by omega) (.int .i64 x.k) (.int .i64 x.s) (.int .i64 x.z) (.int .u64 x.zc) (.int .u64 x.ct) (.int .i64 x.sm) (.slice A1 x.P.length c1) (.slice B1 x.Q.length d1)) (show w.heap.size + 1 + 1 ≠ w.heap.size + 1 by omega) (.int .i64 y.k) (.int .i64 y.s) (.int .i64 y.z) (.int .u64 y.zc) (.int .u64 y.ct) (.int .i64 y.sm) (.slice A2 y.P.length c2) (.slice B2 y.Q.length d2))))
    have HB3 := Lib.hid (below_set8 (below_set8 HB2.out (Nat.le_refl _) (.int .i64 x.k) (.int .i64 x.s) (.int .i64 x.z) (.int .u64 x.zc) (.int .u64 x.ct) (.int .i64 x.sm) (.slice A1 x.P.length c1) (.slice B1 x.Q.length d1)) (by omega : w.heap.size ≤ w.heap.size + 1) (.int .i64 y.k) (.int .i64 y.s) (.int .i64 y.z) (.int .u64 y.zc) (.int .u64 y.ct) (.int .i64 y.sm) (.slice A2 y.P.length c2) (.slice B2 y.Q.length d2))
    have HA3 := Lib.hid (And.intro (And.intro ((HA2.out.1.1.set8 (HN2.out.1.1.ne HLt.out.1) (.int .i64 x.k) (.int .i64 x.s) (.int .i64 x.z) (.int .u64 x.zc) (.int .u64 x.ct) (.int .i64 x.sm) (.slice A1 x.P.length c1) (.slice B1 x.Q.length d1)).set8 (HN2.out.1.1.ne HLt.out.2) (.int .i64 y.k) (.int .i64 y.s) (.int .i64 y.z) (.int .u64 y.zc) (.int .u64 y.ct) (.int .i64 y.sm) (.slice A2 y.P.length c2) (.slice B2 y.Q.length d2)) ((HA2.out.1.2.set8 (HN2.out.1.2.ne HLt.out.1) (.int .i64 x.k) (.int .i64 x.s) (.int .i64 x.z) (.int .u64 x.zc) (.int .u64 x.ct) (.int .i64 x.sm) (.slice A1 x.P.length c1) (.slice B1 x.Q.length d1)).set8 (HN2.out.1.2.ne HLt.out.2) (.int .i64 y.k) (.int .i64 y.s) (.int .i64 y.z) (.int .u64 y.zc) (.int .u64 y.ct) (.int .i64 y.sm) (.slice A2 y.P.length c2) (.slice B2 y.Q.length d2))) (And.intro ((HA2.out.2.1.set8 (HN2.out.2.1.ne HLt.out.1) (.int .i64 x.k) (.int .i64 x.s) (.int .i64 x.z) (.int .u64 x.zc) (.int .u64 x.ct) (.int .i64 x.sm) (.slice A1 x.P.length c1) (.slice B1 x.Q.length d1)).set8 (HN2.out.2.1.ne HLt.out.2) (.int .i64 y.k) (.int .i64 y.s) (.int .i64 y.z) (.int .u64 y.zc) (.int .u64 y.ct) (.int .i64 y.sm) (.slice A2 y.P.length c2) (.slice B2 y.Q.length d2)) ((HA2.out.2.2.set8 (HN2.out.2.2.ne HLt.out.1) (.int .i64 x.k) (.int .i64 x.s) (.int .i64 x.z) (.int .u64 x.zc) (.int .u64 x.ct) (.int .i64 x.sm) (.slice A1 x.P.length c1) (.slice B1 x.Q.length d1)).set8 (HN2.out.2.2.ne HLt.out.2) (.int .i64 y.k) (.int .i64 y.s) (.int .i64 y.z) (.int .u64 y.zc) (.int .u64 y.ct) (.int .i64 y.sm) (.slice A2 y.P.length c2) (.slice B2 y.Q.length d2))))
    generalize hW : ((((((((((((((((w2.setCell ⟨w.heap.size, 0, none⟩ (.int .i64 x.k)).setCell ⟨w.heap.size, 1, none⟩ (.int .i64 x.s)).setCell ⟨w.heap.size, 2, none⟩ (.int .i64 x.z)).setCell ⟨w.heap.size, 3, none⟩ (.int .u64 x.zc)).setCell ⟨w.heap.size, 4, none⟩ (.int .u64 x.ct)).setCell ⟨w.heap.size, 5, none⟩ (.int .i64 x.sm)).setCell ⟨w.heap.size, 6, none⟩ (.slice A1 x.P.length c1)).setCell ⟨w.heap.size, 7, none⟩ (.slice B1 x.Q.length d1)).setCell ⟨w.heap.size + 1, 0, none⟩ (.int .i64 y.k)).setCell ⟨w.heap.size + 1, 1, none⟩ (.int .i64 y.s)).setCell ⟨w.heap.size + 1, 2, none⟩ (.int .i64 y.z)).setCell ⟨w.heap.size + 1, 3, none⟩ (.int .u64 y.zc)).setCell ⟨w.heap.size + 1, 4, none⟩ (.int .u64 y.ct)).setCell ⟨w.heap.size + 1, 5, none⟩ (.int .i64 y.sm)).setCell ⟨w.heap.size + 1, 6, none⟩ (.slice A2 y.P.length c2)).setCell ⟨w.heap.size + 1, 7, none⟩ (.slice B2 y.Q.length d2)) = w3
    have hW' : set8 (set8 w2 (w.heap.size) (.int .i64 x.k) (.int .i64 x.s) (.int .i64 x.z) (.int .u64 x.zc) (.int .u64 x.ct) (.int .i64 x.sm) (.slice A1 x.P.length c1) (.slice B1 x.Q.length d1)) (w.heap.size + 1) (.int .i64 y.k) (.int .i64 y.s) (.int .i64 y.z) (.int .u64 y.zc) (.int .u64 y.ct) (.int .i64 y.sm) (.slice A2 y.P.length c2) (.slice B2 y.Q.length d2) = w3 := hW
    rw [hW'] at HX3 HB3 HA3
    clear hW hW' HX2 HB2 HA2 HN2
    have HXY := Lib.hid HT.out.is
    refine (refoff_any A1 A2 c1 c2 x.P y.P w3 HA3.out.1.1 HA3.out.2.1 HXY.out.ox.aP HXY.out.oy.aP HXY.out.ox.nP HXY.out.oy.pP (by have := HXY.out.ox.lP; omega) (by have := HXY.out.oy.lP; omega)).mono ?_
    intro e w4 hL
    obtain ⟨A3, n3, c3, b3, rfl, hb, hb3, hy3⟩ := hL.gen
    have HLz := Lib.hid HX3.out.2.2.lt
    have HY3 := Lib.hid (And.intro hb3 (show b3 = true → n3 = (tidy (subL x.P y.P)).length ∧ Bk w4 A3 (tidy (subL x.P y.P)) ∧ NewA w3 A3 from hy3))
    have HS4 := Lib.hid (And.intro HB3.out.size hb.size)
    have HX4 := Lib.hid (And.intro (HX3.out.1.below hb) (And.intro (HX3.out.2.1.below hb) (HX3.out.2.2.below hb)))
    have HB4 := Lib.hid (HB3.out.trans (hb.mono HB3.out.size))
    have HA4 := Lib.hid (And.intro (HA3.out.1.2.below hb) (HA3.out.2.2.below hb))
    clear hL hb hb3 hy3 HX3 HB3 HA3
    obtain ⟨x0, x1, x2, x3, x4, x5, x6, x7⟩ := HX4.out.1.cells
    obtain ⟨y0, y1, y2, y3, y4, y5, y6, y7⟩ := HX4.out.2.1.cells
    have l0 := HX4.out.1.lt
    have l1 := HX4.out.2.1.lt
    go_wp2_with fail
    clear x0 x1 x2 x3 x4 x5 x6 x7 y0 y1 y2 y3 y4 y5 y6 y7 l0 l1
    refine (refoff_any B1 B2 d1 d2 x.Q y.Q w4 HA4.out.1 HA4.out.2 HXY.out.ox.aQ HXY.out.oy.aQ HXY.out.ox.nQ HXY.out.oy.pQ (by have := HXY.out.ox.lQ; omega) (by have := HXY.out.oy.lQ; omega)).mono ?_
    intro e w5 hL
    obtain ⟨B3, m3, d3, b4, rfl, hb, hb4, hy4⟩ := hL.gen
    have HY4 := Lib.hid (And.intro hb4 (show b4 = true → m3 = (tidy (subL x.Q y.Q)).length ∧ Bk w5 B3 (tidy (subL x.Q y.Q)) ∧ NewA w3 B3 from fun h => ⟨(hy4 h).1, (hy4 h).2.1, (hy4 h).2.2.mono HS4.out.2⟩))
    have HY5 := Lib.hid (show lessB x.P y.P = b3 ∧ (b3 = true → n3 = (tidy (subL x.P y.P)).length ∧ Bk w5 A3 (tidy (subL x.P y.P)) ∧ NewA w3 A3) from ⟨HY3.out.1, fun h => ⟨(HY3.out.2 h).1, (HY3.out.2 h).2.1.below hb, (HY3.out.2 h).2.2⟩⟩)
    have HX5 := Lib.hid (And.intro (HX4.out.1.below hb) (And.intro (HX4.out.2.1.below hb) (HX4.out.2.2.below hb)))
    have HB5 := Lib.hid (HB4.out.trans (hb.mono HB4.out.size))
    clear hL hb hb4 hy4 HX4 HB4 HA4 HY3
    obtain ⟨x0, x1, x2, x3, x4, x5, x6, x7⟩ := HX5.out.1.cells
    obtain ⟨y0, y1, y2, y3, y4, y5, y6, y7⟩ := HX5.out.2.1.cells
    have l0 := HX5.out.1.lt
    have l1 := HX5.out.2.1.lt
    cases b3 with
    | false =>
      have hso : subOk x y = false := by unfold subOk; rw [HY5.out.1, Bool.false_and, Bool.and_false]
      have hE : mSubE x y = 21 := by unfold mSubE; rw [hso, if_neg (by decide)]
      have HE := Lib.hid (show ∃ x y, Two a b x y ∧ RetH w (mSubO x y) (mSubE x y) (.returned (.tuple #[.agg #[.int .i64 0, .int .i64 0, .int .i64 0, .int .u64 0, .int .u64 0, .int .i64 0, .slice none 0 0, .slice none 0 0], .int .i64 21])) (set8 w5 (w.heap.size + 1 + 1) (.int .i64 0) (.int .i64 0) (.int .i64 0) (.int .u64 0) (.int .u64 0) (.int .i64 0) (.slice none 0 0) (.slice none 0 0)) from ⟨x, y, HT.out, (RetH.zero (E := 21) (below_set8 HB5.out (by omega : w.heap.size ≤ w.heap.size + 1 + 1) (.int .i64 0) (.int .i64 0) (.int .i64 0) (.int .u64 0) (.int .u64 0) (.int .i64 0) (.slice none 0 0) (.slice none 0 0))).as (by unfold mSubO; rw [hE, if_neg (by decide)]) hE.symm⟩)
      clear hE
      obtain ⟨z0, z1, z2, z3, z4, z5, z6, z7⟩ := HX5.out.2.2.cells
      obtain ⟨h0, h1, h2, h3, h4, h5, h6, h7⟩ := HX5.out.2.2.frozen
      have l2 := HX5.out.2.2.lt
      go_wp2_with fail
      exact bodyPost_ret (v := .tuple #[.agg #[.int .i64 0, .int .i64 0, .int .i64 0, .int .u64 0, .int .u64 0, .int .i64 0, .slice none 0 0, .slice none 0 0], .int .i64 21]) (by simp [results, Try.results18, go_sem, z0, z1, z2, z3, z4, z5, z6, z7]) rfl HE.out
    | true =>
      cases b4 with
      | false =>
        have hso : subOk x y = false := by unfold subOk; rw [HY4.out.1, Bool.and_false, Bool.and_false]
        have hE : mSubE x y = 21 := by unfold mSubE; rw [hso, if_neg (by decide)]
        have HE := Lib.hid (show ∃ x y, Two a b x y ∧ RetH w (mSubO x y) (mSubE x y) (.returned (.tuple #[.agg #[.int .i64 0, .int .i64 0, .int .i64 0, .int .u64 0, .int .u64 0, .int .i64 0, .slice none 0 0, .slice none 0 0], .int .i64 21])) (set8 w5 (w.heap.size + 1 + 1) (.int .i64 0) (.int .i64 0) (.int .i64 0) (.int .u64 0) (.int .u64 0) (.int .i64 0) (.slice none 0 0) (.slice none 0 0)) from ⟨x, y, HT.out, (RetH.zero (E := 21) (below_set8 HB5.out (by omega : w.heap.size ≤ w.heap.size + 1 + 1) (.int .i64 0) (.int .i64 0) (.int .i64 0) (.int .u64 0) (.int .u64 0) (.int .i64 0) (.slice none 0 0) (.slice none 0 0))).as (by unfold mSubO; rw [hE, if_neg (by decide)]) hE.symm⟩)
        clear hE
        obtain ⟨z0, z1, z2, z3, z4, z5, z6, z7⟩ := HX5.out.2.2.cells
        obtain ⟨h0, h1, h2, h3, h4, h5, h6, h7⟩ := HX5.out.2.2.frozen
        have l2 := HX5.out.2.2.lt
        go_wp2_with fail
        exact bodyPost_ret (v := .tuple #[.agg #[.int .i64 0, .int .i64 0, .int .i64 0, .int .u64 0, .int .u64 0, .int .i64 0, .slice none 0 0, .slice none 0 0], .int .i64 21]) (by simp [results, Try.results18, go_sem, z0, z1, z2, z3, z4, z5, z6, z7]) rfl HE.out
      | true =>
        by_cases hz : x.zc < y.zc
        · have dz : decide (x.zc < y.zc) = true := by simpa using hz
          have hso : subOk x y = false := by unfold subOk; rw [decide_eq_false (by omega), Bool.false_and]
          clear hz
          have hE : mSubE x y = 21 := by unfold mSubE; rw [hso, if_neg (by decide)]
          have HE := Lib.hid (show ∃ x y, Two a b x y ∧ RetH w (mSubO x y) (mSubE x y) (.returned (.tuple #[.agg #[.int .i64 0, .int .i64 0, .int .i64 0, .int .u64 0, .int .u64 0, .int .i64 0, .slice none 0 0, .slice none 0 0], .int .i64 21])) (set8 w5 (w.heap.size + 1 + 1) (.int .i64 0) (.int .i64 0) (.int .i64 0) (.int .u64 0) (.int .u64 0) (.int .i64 0) (.slice none 0 0) (.slice none 0 0)) from ⟨x, y, HT.out, (RetH.zero (E := 21) (below_set8 HB5.out (by omega : w.heap.size ≤ w.heap.size + 1 + 1) (.int .i64 0) (.int .i64 0) (.int .i64 0) (.int .u64 0) (.int .u64 0) (.int .i64 0) (.slice none 0 0) (.slice none 0 0))).as (by unfold mSubO; rw [hE, if_neg (by decide)]) hE.symm⟩)
          clear hE
          obtain ⟨z0, z1, z2, z3, z4, z5, z6, z7⟩ := HX5.out.2.2.cells
          obtain ⟨h0, h1, h2, h3, h4, h5, h6, h7⟩ := HX5.out.2.2.frozen
          have l2 := HX5.out.2.2.lt
          go_wp2_with fail
          exact bodyPost_ret (v := .tuple #[.agg #[.int .i64 0, .int .i64 0, .int .i64 0, .int .u64 0, .int .u64 0, .int .i64 0, .slice none 0 0, .slice none 0 0], .int .i64 21]) (by simp [results, Try.results18, go_sem, z0, z1, z2, z3, z4, z5, z6, z7]) rfl HE.out
        · have dz : decide (x.zc < y.zc) = false := by simpa using hz
          have hso : subOk x y = true := by unfold subOk; rw [HY4.out.1, HY5.out.1, decide_eq_true (by omega)]; rfl
          have hzc : y.zc ≤ x.zc := by omega
          clear hz
          by_cases hi : inI64 S
          · obtain rfl : SV = S := by rw [← HSV.out.1]; exact (int_fits hi).1
            obtain rfl : SE = 0 := by rw [← HSV.out.2]; exact (int_fits hi).2
            have hsm : x.sm - y.sm = SV := by rw [HXY.out.xm, HXY.out.ym]; exact HS.out
            have hE : mSubE x y = 0 := by unfold mSubE; rw [if_pos hso, hsm, if_pos hi]
            have hok := sub_ok HXY.out.ox HXY.out.oy hso (by rw [hsm]; exact hi)
            obtain ⟨ZV, hZV⟩ : ∃ v, x.zc - y.zc = v := ⟨_, rfl⟩
            obtain ⟨CV, hCV⟩ : ∃ v, x.ct - y.ct = v := ⟨_, rfl⟩
            have z0_ : 0 ≤ ZV := by omega
            have z1_ : ZV ≤ 18446744073709551615 := by have := HXY.out.ox.toGood.z1; have := HXY.out.oy.zc; omega
            have c0_ : 0 ≤ CV := by
              have h1 : x.zc - y.zc + cnt (tidy (subL x.P y.P)) + cnt (tidy (subL x.Q y.Q)) = x.ct - y.ct := hok.ct
              have h2 := hok.nP.cnt
              have h3 := hok.nQ.cnt
              have h4 : 0 ≤ cnt (tidy (subL x.P y.P)) := h2
              have h5 : 0 ≤ cnt (tidy (subL x.Q y.Q)) := h3
              omega
            have c1_ : CV ≤ 18446744073709551615 := by have h : x.ct - y.ct ≤ 18446744073709551615 := hok.big; omega
            have HRR := Lib.hid (show mSubO x y = ⟨x.k, x.s, x.z, ZV, CV, SV, tidy (subL x.P y.P), tidy (subL x.Q y.Q)⟩ from by unfold mSubO; rw [if_pos hE]; exact HV.eq rfl rfl rfl hZV hCV hsm rfl rfl)
            have HEE := Lib.hid hE
            obtain ⟨rfl, hA3, nA3⟩ := HY5.out.2 rfl
            obtain ⟨rfl, hB3, nB3⟩ := HY4.out.2 rfl
            have HR5 := Lib.hid (And.intro (And.intro hA3 hB3) (And.intro nA3 nB3))
            clear hA3 hB3 nA3 nB3 hso hzc hi hsm hE hok
            obtain ⟨z0, z1, z2, z3, z4, z5, z6, z7⟩ := HX5.out.2.2.cells
            obtain ⟨h0, h1, h2, h3, h4, h5, h6, h7⟩ := HX5.out.2.2.frozen
            have l2 := HX5.out.2.2.lt
            go_wp2_with fail
            clear x0 x1 x2 x3 x4 x5 x6 x7 y0 y1 y2 y3 y4 y5 y6 y7 l0 l1 z0 z1 z2 z3 z4 z5 z6 z7 h0 h1 h2 h3 h4 h5 h6 h7 l2
            have hal : Below (set8 w5 (w.heap.size + 1 + 1) (.int .i64 x.k) (.int .i64 x.s) (.int .i64 x.z) (.int .u64 ZV) (.int .u64 CV) (.int .i64 SV) (.slice A3 (tidy (subL x.P y.P)).length c3) (.slice B3 (tidy (subL x.Q y.Q)).length d3)).heap.size (set8 w5 (w.heap.size + 1 + 1) (.int .i64 x.k) (.int .i64 x.s) (.int .i64 x.z) (.int .u64 ZV) (.int .u64 CV) (.int .i64 SV) (.slice A3 (tidy (subL x.P y.P)).length c3) (.slice B3 (tidy (subL x.Q y.Q)).length d3)) ((set8 w5 (w.heap.size + 1 + 1) (.int .i64 x.k) (.int .i64 x.s) (.int .i64 x.z) (.int .u64 ZV) (.int .u64 CV) (.int .i64 SV) (.slice A3 (tidy (subL x.P y.P)).length c3) (.slice B3 (tidy (subL x.Q y.Q)).length d3)).alloc (.cells #[.int .i64 x.k, .int .i64 x.s, .int .i64 x.z, .int .u64 ZV, .int .u64 CV, .int .i64 SV, .slice A3 (tidy (subL x.P y.P)).length c3, .slice B3 (tidy (subL x.Q y.Q)).length d3] 25)) := (Below.refl _ _).alloc (Nat.le_refl _) _
            have HB6 := Lib.hid (below_set8 HB5.out (by omega : w.heap.size ≤ w.heap.size + 1 + 1) (.int .i64 x.k) (.int .i64 x.s) (.int .i64 x.z) (.int .u64 ZV) (.int .u64 CV) (.int .i64 SV) (.slice A3 (tidy (subL x.P y.P)).length c3) (.slice B3 (tidy (subL x.Q y.Q)).length d3))
            have HE := Lib.hid (show ∃ p q, Two a b p q ∧ RetH w (mSubO p q) (mSubE p q) (.returned (.tuple #[.agg #[.int .i64 x.k, .int .i64 x.s, .int .i64 x.z, .int .u64 ZV, .int .u64 CV, .int .i64 SV, .slice A3 (tidy (subL x.P y.P)).length c3, .slice B3 (tidy (subL x.Q y.Q)).length d3], .int .i64 0])) ((set8 w5 (w.heap.size + 1 + 1) (.int .i64 x.k) (.int .i64 x.s) (.int .i64 x.z) (.int .u64 ZV) (.int .u64 CV) (.int .i64 SV) (.slice A3 (tidy (subL x.P y.P)).length c3) (.slice B3 (tidy (subL x.Q y.Q)).length d3)).alloc (.cells #[.int .i64 x.k, .int .i64 x.s, .int .i64 x.z, .int .u64 ZV, .int .u64 CV, .int .i64 SV, .slice A3 (tidy (subL x.P y.P)).length c3, .slice B3 (tidy (subL x.Q y.Q)).length d3] 25)) from ⟨x, y, HT.out, by
              rw [HRR.out, HEE.out]
              exact ⟨A3, B3, c3, d3, rfl, (HR5.out.1.1.set8 (HR5.out.2.1.ne HLz.out) _ _ _ _ _ _ _ _).below hal, (HR5.out.1.2.set8 (HR5.out.2.2.ne HLz.out) _ _ _ _ _ _ _ _).below hal, HB6.out.trans (hal.mono HB6.out.size), HR5.out.2.1.mono HS4.out.1, HR5.out.2.2.mono HS4.out.1⟩⟩)
            have HF := Lib.hid ((HX5.out.2.2.put8 (.int .i64 x.k) (.int .i64 x.s) (.int .i64 x.z) (.int .u64 ZV) (.int .u64 CV) (.int .i64 SV) (.slice A3 (tidy (subL x.P y.P)).length c3) (.slice B3 (tidy (subL x.Q y.Q)).length d3)).alloc (.cells #[.int .i64 x.k, .int .i64 x.s, .int .i64 x.z, .int .u64 ZV, .int .u64 CV, .int .i64 SV, .slice A3 (tidy (subL x.P y.P)).length c3, .slice B3 (tidy (subL x.Q y.Q)).length d3] 25))
            clear hal
            generalize hW : ((((((((w5.setCell ⟨w.heap.size + 1 + 1, 0, none⟩ (.int .i64 x.k)).setCell ⟨w.heap.size + 1 + 1, 1, none⟩ (.int .i64 x.s)).setCell ⟨w.heap.size + 1 + 1, 2, none⟩ (.int .i64 x.z)).setCell ⟨w.heap.size + 1 + 1, 3, none⟩ (.int .u64 ZV)).setCell ⟨w.heap.size + 1 + 1, 4, none⟩ (.int .u64 CV)).setCell ⟨w.heap.size + 1 + 1, 5, none⟩ (.int .i64 SV)).setCell ⟨w.heap.size + 1 + 1, 6, none⟩ (.slice A3 (tidy (subL x.P y.P)).length c3)).setCell ⟨w.heap.size + 1 + 1, 7, none⟩ (.slice B3 (tidy (subL x.Q y.Q)).length d3)).alloc (.cells #[.int .i64 x.k, .int .i64 x.s, .int .i64 x.z, .int .u64 ZV, .int .u64 CV, .int .i64 SV, .slice A3 (tidy (subL x.P y.P)).length c3, .slice B3 (tidy (subL x.Q y.Q)).length d3] 25) = w9
            have hW' : (set8 w5 (w.heap.size + 1 + 1) (.int .i64 x.k) (.int .i64 x.s) (.int .i64 x.z) (.int .u64 ZV) (.int .u64 CV) (.int .i64 SV) (.slice A3 (tidy (subL x.P y.P)).length c3) (.slice B3 (tidy (subL x.Q y.Q)).length d3)).alloc (.cells #[.int .i64 x.k, .int .i64 x.s, .int .i64 x.z, .int .u64 ZV, .int .u64 CV, .int .i64 SV, .slice A3 (tidy (subL x.P y.P)).length c3, .slice B3 (tidy (subL x.Q y.Q)).length d3] 25) = w9 := hW
            rw [hW'] at HE HF
            obtain ⟨z0, z1, z2, z3, z4, z5, z6, z7⟩ := HF.out.cells
            exact bodyPost_ret (v := .tuple #[.agg #[.int .i64 x.k, .int .i64 x.s, .int .i64 x.z, .int .u64 ZV, .int .u64 CV, .int .i64 SV, .slice A3 (tidy (subL x.P y.P)).length c3, .slice B3 (tidy (subL x.Q y.Q)).length d3], .int .i64 0]) (by simp [results, Try.results18, go_sem, z0, z1, z2, z3, z4, z5, z6, z7]) rfl HE.out
          · obtain rfl : SE = 5 := by rw [← HSV.out.2]; exact (int_over hi).2
            have hsm : x.sm - y.sm = S := by rw [HXY.out.xm, HXY.out.ym]; exact HS.out
            have hE : mSubE x y = 5 := by unfold mSubE; rw [if_pos hso, hsm, if_neg hi]
            have HE := Lib.hid (show ∃ x y, Two a b x y ∧ RetH w (mSubO x y) (mSubE x y) (.returned (.tuple #[.agg #[.int .i64 0, .int .i64 0, .int .i64 0, .int .u64 0, .int .u64 0, .int .i64 0, .slice none 0 0, .slice none 0 0], .int .i64 5])) (set8 w5 (w.heap.size + 1 + 1) (.int .i64 0) (.int .i64 0) (.int .i64 0) (.int .u64 0) (.int .u64 0) (.int .i64 0) (.slice none 0 0) (.slice none 0 0)) from ⟨x, y, HT.out, (RetH.zero (E := 5) (below_set8 HB5.out (by omega : w.heap.size ≤ w.heap.size + 1 + 1) (.int .i64 0) (.int .i64 0) (.int .i64 0) (.int .u64 0) (.int .u64 0) (.int .i64 0) (.slice none 0 0) (.slice none 0 0))).as (by unfold mSubO; rw [hE, if_neg (by decide)]) hE.symm⟩)
            clear hE
            obtain ⟨z0, z1, z2, z3, z4, z5, z6, z7⟩ := HX5.out.2.2.cells
            obtain ⟨h0, h1, h2, h3, h4, h5, h6, h7⟩ := HX5.out.2.2.frozen
            have l2 := HX5.out.2.2.lt
            go_wp2_with fail
            exact bodyPost_ret (v := .tuple #[.agg #[.int .i64 0, .int .i64 0, .int .i64 0, .int .u64 0, .int .u64 0, .int .i64 0, .slice none 0 0, .slice none 0 0], .int .i64 5]) (by simp [results, Try.results18, go_sem, z0, z1, z2, z3, z4, z5, z6, z7]) rfl HE.out
end Go.Proofs.Ytbibhjcmdehdbaa
