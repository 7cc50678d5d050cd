/- The law MeldDowns. -/
import Derived.Test.YtofaciagkkipbaaRfH
import Derived.Test.YtofaciagkkipbaaMdX
import Derived.Test.YtofaciagkkipbaaMdU
/-! The document's Alike. -/
namespace Go.Proofs.Ytofaciagkkipbaa
open Go.RowKit Go.Sort Go.Maps
set_option linter.unusedVariables false

/-- two histograms are returned -/
def RetP (w : World) (r q : HV) (e : Ending) (w' : World) : Prop :=
  ∃ (A B A' B' : Option Addr) (c d c' d' : Nat), e = .returned (.tuple #[hvA r A B c d, hvA q A' B' c' d']) ∧ (Bk w' A r.P ∧ Bk w' B r.Q ∧ Bk w' A' q.P ∧ Bk w' B' q.Q) ∧ Below w.heap.size w w' ∧ NewA w A ∧ NewA w B ∧ NewA w A' ∧ NewA w B'
/-- the two boxes, and those of the results -/
structure Two4 (w w0 : World) (x y : HV) (A1 B1 A2 B2 : Option Addr) (c1 d1 c2 d2 : Nat) (wr : World) : Prop where
  X : Box wr (w.heap.size) (.int .i64 x.k) (.int .i64 x.s) (.int .i64 x.z) (.int .u64 x.zc) (.int .u64 x.ct) (.int .i64 x.sm) (.slice A1 x.P.length c1) (.slice B1 x.Q.length d1)
  Y : Box wr (w.heap.size + 1) (.int .i64 y.k) (.int .i64 y.s) (.int .i64 y.z) (.int .u64 y.zc) (.int .u64 y.ct) (.int .i64 y.sm) (.slice A2 y.P.length c2) (.slice B2 y.Q.length d2)
  Z : Box wr (w.heap.size + 1 + 1) (.int .i64 0) (.int .i64 0) (.int .i64 0) (.int .u64 0) (.int .u64 0) (.int .i64 0) (.slice none 0 0) (.slice none 0 0)
  V : Box wr (w.heap.size + 1 + 1 + 1) (.int .i64 0) (.int .i64 0) (.int .i64 0) (.int .u64 0) (.int .u64 0) (.int .i64 0) (.slice none 0 0) (.slice none 0 0)
  hA : Bk wr A1 x.P
  hB : Bk wr B1 x.Q
  hA' : Bk wr A2 y.P
  hB' : Bk wr B2 y.Q
  sz : w0.heap.size ≤ wr.heap.size
  b : Below w.heap.size w wr
theorem Two4.below {w w0 : World} {x y : HV} {A1 B1 A2 B2 : Option Addr} {c1 d1 c2 d2 : Nat} {wr wr' : World} (h : Two4 w w0 x y A1 B1 A2 B2 c1 d1 c2 d2 wr) (hb : Below wr.heap.size wr wr') : Two4 w w0 x y A1 B1 A2 B2 c1 d1 c2 d2 wr' :=
  ⟨h.X.below hb, h.Y.below hb, h.Z.below hb, h.V.below hb, h.hA.below hb, h.hB.below hb, h.hA'.below hb, h.hB'.below hb, Nat.le_trans h.sz hb.size, h.b.trans (hb.mono h.b.size)⟩
theorem Two4.setX {w w0 : World} {x y r : HV} {A1 B1 A2 B2 A3 B3 : Option Addr} {c1 d1 c2 d2 c3 d3 : Nat} {wr : World} (h : Two4 w w0 x y A1 B1 A2 B2 c1 d1 c2 d2 wr) (hA3 : Bk wr A3 r.P) (hB3 : Bk wr B3 r.Q) (n3 : r.P.length = 0 ∨ ∀ a, A3 = some a → a.block ≠ w.heap.size) (m3 : r.Q.length = 0 ∨ ∀ a, B3 = some a → a.block ≠ w.heap.size) (n2 : y.P.length = 0 ∨ ∀ a, A2 = some a → a.block ≠ w.heap.size) (m2 : y.Q.length = 0 ∨ ∀ a, B2 = some a → a.block ≠ w.heap.size) :
    Two4 w w0 r y A3 B3 A2 B2 c3 d3 c2 d2 (set8 wr w.heap.size (.int .i64 r.k) (.int .i64 r.s) (.int .i64 r.z) (.int .u64 r.zc) (.int .u64 r.ct) (.int .i64 r.sm) (.slice A3 r.P.length c3) (.slice B3 r.Q.length d3)) :=
  ⟨h.X.put8 _ _ _ _ _ _ _ _, h.Y.off8 (by omega) _ _ _ _ _ _ _ _, h.Z.off8 (by omega) _ _ _ _ _ _ _ _, h.V.off8 (by omega) _ _ _ _ _ _ _ _, hA3.set8n n3 _ _ _ _ _ _ _ _, hB3.set8n m3 _ _ _ _ _ _ _ _, h.hA'.set8n n2 _ _ _ _ _ _ _ _, h.hB'.set8n m2 _ _ _ _ _ _ _ _, by rw [size_set8]; exact h.sz, below_set8 h.b (Nat.le_refl _) _ _ _ _ _ _ _ _⟩
theorem Two4.setY {w w0 : World} {x y r : HV} {A1 B1 A2 B2 A3 B3 : Option Addr} {c1 d1 c2 d2 c3 d3 : Nat} {wr : World} (h : Two4 w w0 x y A1 B1 A2 B2 c1 d1 c2 d2 wr) (hA3 : Bk wr A3 r.P) (hB3 : Bk wr B3 r.Q) (n3 : r.P.length = 0 ∨ ∀ a, A3 = some a → a.block ≠ w.heap.size + 1) (m3 : r.Q.length = 0 ∨ ∀ a, B3 = some a → a.block ≠ w.heap.size + 1) (n2 : x.P.length = 0 ∨ ∀ a, A1 = some a → a.block ≠ w.heap.size + 1) (m2 : x.Q.length = 0 ∨ ∀ a, B1 = some a → a.block ≠ w.heap.size + 1) :
    Two4 w w0 x r A1 B1 A3 B3 c1 d1 c3 d3 (set8 wr (w.heap.size + 1) (.int .i64 r.k) (.int .i64 r.s) (.int .i64 r.z) (.int .u64 r.zc) (.int .u64 r.ct) (.int .i64 r.sm) (.slice A3 r.P.length c3) (.slice B3 r.Q.length d3)) :=
  ⟨h.X.off8 (by omega) _ _ _ _ _ _ _ _, h.Y.put8 _ _ _ _ _ _ _ _, h.Z.off8 (by omega) _ _ _ _ _ _ _ _, h.V.off8 (by omega) _ _ _ _ _ _ _ _, h.hA.set8n n2 _ _ _ _ _ _ _ _, h.hB.set8n m2 _ _ _ _ _ _ _ _, hA3.set8n n3 _ _ _ _ _ _ _ _, hB3.set8n m3 _ _ _ _ _ _ _ _, by rw [size_set8]; exact h.sz, below_set8 h.b (by omega) _ _ _ _ _ _ _ _⟩
/-- between the rounds -/
def RkRel (w w0 : World) (a0 b0 : HV) (wr : World) : Prop :=
  ∃ (x y : HV) (A1 B1 A2 B2 : Option Addr) (c1 d1 c2 d2 : Nat), Two4 w w0 x y A1 B1 A2 B2 c1 d1 c2 d2 wr ∧ ((NewA w0 A1 ∧ NewA w0 B1) ∧ (NewA w0 A2 ∧ NewA w0 B2)) ∧ (Ok x ∧ Ok y) ∧ (∀ p q, Alk x y p q → Alk a0 b0 p q)
theorem RetP.drew {w : World} {r q : HV} {e : Ending} {w' : World} (h : RetP w r q e w') : RetP w r q e w'.drew := by
  obtain ⟨A, B, A', B', c, d, c', d', he, ⟨h1, h2, h3, h4⟩, hb, hn⟩ := h
  exact ⟨A, B, A', B', c, d, c', d', he, ⟨h1, h2, h3, h4⟩, Below.drew hb, hn⟩
set_option maxHeartbeats 4000000 in
set_option maxRecDepth 100000 in
theorem refalike_any (a b : HV) (A B A' B' : Option Addr) (c d c' d' : Nat) (w : World) (hP : Bk w A a.P) (hQ : Bk w B a.Q) (hP' : Bk w A' b.P) (hQ' : Bk w B' b.Q) (oa : Ok a) (ob : Ok b) (a0 b0 : HV) (ha0 : downF a (min a.s b.s) = a0) (hb0' : downF b (min a.s b.s) = b0) :
    Calls Try.prog 18 #[.agg #[.int .i64 a.k, .int .i64 a.s, .int .i64 a.z, .int .u64 a.zc, .int .u64 a.ct, .int .i64 a.sm, .slice A a.P.length c, .slice B a.Q.length d], .agg #[.int .i64 b.k, .int .i64 b.s, .int .i64 b.z, .int .u64 b.zc, .int .u64 b.ct, .int .i64 b.sm, .slice A' b.P.length c', .slice B' b.Q.length d']] w fun e w' => ∃ x y, Alk a0 b0 x y ∧ RetP w x y e w' := by
  have HO := Lib.hid (And.intro oa ob)
  have HD := Lib.hid (And.intro ha0 hb0')
  have HKw := Lib.hid (And.intro (And.intro hP hQ) (And.intro hP' hQ'))
  have bx0 := (((Box.new w (.int .i64 a.k) (.int .i64 a.s) (.int .i64 a.z) (.int .u64 a.zc) (.int .u64 a.ct) (.int .i64 a.sm) (.slice A a.P.length c) (.slice B a.Q.length d)).alloc (.cells #[.int .i64 b.k, .int .i64 b.s, .int .i64 b.z, .int .u64 b.zc, .int .u64 b.ct, .int .i64 b.sm, .slice A' b.P.length c', .slice B' b.Q.length d'] 25)).alloc (.cells #[.int .i64 0, .int .i64 0, .int .i64 0, .int .u64 0, .int .u64 0, .int .i64 0, .slice none 0 0, .slice none 0 0] 25)).alloc (.cells #[.int .i64 0, .int .i64 0, .int .i64 0, .int .u64 0, .int .u64 0, .int .i64 0, .slice none 0 0, .slice none 0 0] 25)
  have bx1 := ((Box.newAt (w.alloc (.cells #[.int .i64 a.k, .int .i64 a.s, .int .i64 a.z, .int .u64 a.zc, .int .u64 a.ct, .int .i64 a.sm, .slice A a.P.length c, .slice B a.Q.length d] 25)) (w.heap.size + 1) (by simp) (.int .i64 b.k) (.int .i64 b.s) (.int .i64 b.z) (.int .u64 b.zc) (.int .u64 b.ct) (.int .i64 b.sm) (.slice A' b.P.length c') (.slice B' b.Q.length d')).alloc (.cells #[.int .i64 0, .int .i64 0, .int .i64 0, .int .u64 0, .int .u64 0, .int .i64 0, .slice none 0 0, .slice none 0 0] 25)).alloc (.cells #[.int .i64 0, .int .i64 0, .int .i64 0, .int .u64 0, .int .u64 0, .int .i64 0, .slice none 0 0, .slice none 0 0] 25)
  have bx2 := (Box.newAt ((w.alloc (.cells #[.int .i64 a.k, .int .i64 a.s, .int .i64 a.z, .int .u64 a.zc, .int .u64 a.ct, .int .i64 a.sm, .slice A a.P.length c, .slice B a.Q.length d] 25)).alloc (.cells #[.int .i64 b.k, .int .i64 b.s, .int .i64 b.z, .int .u64 b.zc, .int .u64 b.ct, .int .i64 b.sm, .slice A' b.P.length c', .slice B' b.Q.length d'] 25)) (w.heap.size + 1 + 1) (by simp) (.int .i64 0) (.int .i64 0) (.int .i64 0) (.int .u64 0) (.int .u64 0) (.int .i64 0) (.slice none 0 0) (.slice none 0 0)).alloc (.cells #[.int .i64 0, .int .i64 0, .int .i64 0, .int .u64 0, .int .u64 0, .int .i64 0, .slice none 0 0, .slice none 0 0] 25)
  have bx3 := Box.newAt (((w.alloc (.cells #[.int .i64 a.k, .int .i64 a.s, .int .i64 a.z, .int .u64 a.zc, .int .u64 a.ct, .int .i64 a.sm, .slice A a.P.length c, .slice B a.Q.length d] 25)).alloc (.cells #[.int .i64 b.k, .int .i64 b.s, .int .i64 b.z, .int .u64 b.zc, .int .u64 b.ct, .int .i64 b.sm, .slice A' b.P.length c', .slice B' b.Q.length d'] 25)).alloc (.cells #[.int .i64 0, .int .i64 0, .int .i64 0, .int .u64 0, .int .u64 0, .int .i64 0, .slice none 0 0, .slice none 0 0] 25)) (w.heap.size + 1 + 1 + 1) (by simp) (.int .i64 0) (.int .i64 0) (.int .i64 0) (.int .u64 0) (.int .u64 0) (.int .i64 0) (.slice none 0 0) (.slice none 0 0)
  have hb := ((((Below.refl w.heap.size w).alloc (Nat.le_refl _) (.cells #[.int .i64 a.k, .int .i64 a.s, .int .i64 a.z, .int .u64 a.zc, .int .u64 a.ct, .int .i64 a.sm, .slice A a.P.length c, .slice B a.Q.length d] 25)).alloc (by simp) (.cells #[.int .i64 b.k, .int .i64 b.s, .int .i64 b.z, .int .u64 b.zc, .int .u64 b.ct, .int .i64 b.sm, .slice A' b.P.length c', .slice B' b.Q.length d'] 25)).alloc (by simp; omega) (.cells #[.int .i64 0, .int .i64 0, .int .i64 0, .int .u64 0, .int .u64 0, .int .i64 0, .slice none 0 0, .slice none 0 0] 25)).alloc (by simp; omega) (.cells #[.int .i64 0, .int .i64 0, .int .i64 0, .int .u64 0, .int .u64 0, .int .i64 0, .slice none 0 0, .slice none 0 0] 25)
  have HT0 := Lib.hid (show Two4 w ((((w.alloc (.cells #[.int .i64 a.k, .int .i64 a.s, .int .i64 a.z, .int .u64 a.zc, .int .u64 a.ct, .int .i64 a.sm, .slice A a.P.length c, .slice B a.Q.length d] 25)).alloc (.cells #[.int .i64 b.k, .int .i64 b.s, .int .i64 b.z, .int .u64 b.zc, .int .u64 b.ct, .int .i64 b.sm, .slice A' b.P.length c', .slice B' b.Q.length d'] 25)).alloc (.cells #[.int .i64 0, .int .i64 0, .int .i64 0, .int .u64 0, .int .u64 0, .int .i64 0, .slice none 0 0, .slice none 0 0] 25)).alloc (.cells #[.int .i64 0, .int .i64 0, .int .i64 0, .int .u64 0, .int .u64 0, .int .i64 0, .slice none 0 0, .slice none 0 0] 25)) a b A B A' B' c d c' d' ((((w.alloc (.cells #[.int .i64 a.k, .int .i64 a.s, .int .i64 a.z, .int .u64 a.zc, .int .u64 a.ct, .int .i64 a.sm, .slice A a.P.length c, .slice B a.Q.length d] 25)).alloc (.cells #[.int .i64 b.k, .int .i64 b.s, .int .i64 b.z, .int .u64 b.zc, .int .u64 b.ct, .int .i64 b.sm, .slice A' b.P.length c', .slice B' b.Q.length d'] 25)).alloc (.cells #[.int .i64 0, .int .i64 0, .int .i64 0, .int .u64 0, .int .u64 0, .int .i64 0, .slice none 0 0, .slice none 0 0] 25)).alloc (.cells #[.int .i64 0, .int .i64 0, .int .i64 0, .int .u64 0, .int .u64 0, .int .i64 0, .slice none 0 0, .slice none 0 0] 25)) from ⟨bx0, bx1, bx2, bx3, hP.below hb, hQ.below hb, hP'.below hb, hQ'.below hb, Nat.le_refl _, hb⟩)
  have HBs := Lib.hid hb.size
  clear hP hQ hP' hQ' oa ob ha0 hb0' bx0 bx1 bx2 bx3 hb
  go_enter Try.func18, Try.ntmps18
  by_cases hlt : a.s < b.s
  · skip
    have d1 : decide (a.s < b.s) = true := by simpa using hlt
    have hm : min a.s b.s = a.s := by omega
    have HM := Lib.hid hm
    have HRr := Lib.hid (And.intro HO.out.1.s HO.out.2.s)
    have hle : a.s ≤ b.s := by omega
    have HLe := Lib.hid hle
    clear hlt hm hle
    obtain ⟨x0, x1, x2, x3, x4, x5, x6, x7⟩ := HT0.out.X.cells
    obtain ⟨y0, y1, y2, y3, y4, y5, y6, y7⟩ := HT0.out.Y.cells
    have l0 := HT0.out.X.lt
    have l1 := HT0.out.Y.lt
    go_wp2_with fail
    clear x0 x1 x2 x3 x4 x5 x6 x7 y0 y1 y2 y3 y4 y5 y6 y7 l0 l1
    generalize ((((w.alloc (.cells #[.int .i64 a.k, .int .i64 a.s, .int .i64 a.z, .int .u64 a.zc, .int .u64 a.ct, .int .i64 a.sm, .slice A a.P.length c, .slice B a.Q.length d] 25)).alloc (.cells #[.int .i64 b.k, .int .i64 b.s, .int .i64 b.z, .int .u64 b.zc, .int .u64 b.ct, .int .i64 b.sm, .slice A' b.P.length c', .slice B' b.Q.length d'] 25)).alloc (.cells #[.int .i64 0, .int .i64 0, .int .i64 0, .int .u64 0, .int .u64 0, .int .i64 0, .slice none 0 0, .slice none 0 0] 25)).alloc (.cells #[.int .i64 0, .int .i64 0, .int .i64 0, .int .u64 0, .int .u64 0, .int .i64 0, .slice none 0 0, .slice none 0 0] 25)) = w0 at *
    have hd := refdown_any b a.s A' B' c' d' w0 HT0.out.hA' HT0.out.hB' HO.out.2
    refine hd.mono ?_
    intro e w1 hR
    obtain ⟨A4, B4, c4, d4, rfl, hA, hB, hb, nA, nB⟩ := hR.as (show downO b a.s = b0 by unfold downO downE; rw [if_pos (by rw [if_pos ⟨HRr.out.1, HLe.out⟩]), ← HM.out]; exact HD.out.2) (show downE b.s a.s = 0 by unfold downE; rw [if_pos ⟨HRr.out.1, HLe.out⟩])
    have HS0 := Lib.hid (And.intro HT0.out.X.lt (And.intro HT0.out.Y.lt (And.intro HT0.out.Z.lt HT0.out.V.lt)))
    have HN4 := Lib.hid (And.intro nA nB)
    have HT1 := Lib.hid (HT0.out.below hb)
    have HAB := Lib.hid (And.intro hA hB)
    clear hd hR hA hB hb nA nB HT0
    obtain ⟨x0, x1, x2, x3, x4, x5, x6, x7⟩ := HT1.out.X.cells
    obtain ⟨y0, y1, y2, y3, y4, y5, y6, y7⟩ := HT1.out.Y.cells
    have l0 := HT1.out.X.lt
    have l1 := HT1.out.Y.lt
    obtain ⟨f0, f1, f2, f3, f4, f5, f6, f7⟩ := HT1.out.Y.frozen
    simp only [hvA]
    go_wp2_with fail
    clear x0 x1 x2 x3 x4 x5 x6 x7 y0 y1 y2 y3 y4 y5 y6 y7 l0 l1 f0 f1 f2 f3 f4 f5 f6 f7
    have HT2 := Lib.hid (HT1.out.setY (c3 := c4) (d3 := d4) HAB.out.1 HAB.out.2 (.inr (HN4.out.1.ne HS0.out.2.1)) (.inr (HN4.out.2.ne HS0.out.2.1)) (HKw.out.1.1.ne_lt (by omega)) (HKw.out.1.2.ne_lt (by omega)))
    generalize hW : ((((((((w1.setCell ⟨w.heap.size + 1, 0, none⟩ (.int .i64 b0.k)).setCell ⟨w.heap.size + 1, 1, none⟩ (.int .i64 b0.s)).setCell ⟨w.heap.size + 1, 2, none⟩ (.int .i64 b0.z)).setCell ⟨w.heap.size + 1, 3, none⟩ (.int .u64 b0.zc)).setCell ⟨w.heap.size + 1, 4, none⟩ (.int .u64 b0.ct)).setCell ⟨w.heap.size + 1, 5, none⟩ (.int .i64 b0.sm)).setCell ⟨w.heap.size + 1, 6, none⟩ (.slice A4 b0.P.length c4)).setCell ⟨w.heap.size + 1, 7, none⟩ (.slice B4 b0.Q.length d4)) = w2
    have hW' : set8 w1 (w.heap.size + 1) (.int .i64 b0.k) (.int .i64 b0.s) (.int .i64 b0.z) (.int .u64 b0.zc) (.int .u64 b0.ct) (.int .i64 b0.sm) (.slice A4 b0.P.length c4) (.slice B4 b0.Q.length d4) = w2 := hW
    rw [hW'] at HT2
    clear hW hW' HT1 HAB
    have hd := refdown_any a a.s A B c d w2 HT2.out.hA HT2.out.hB HO.out.1
    refine hd.mono ?_
    intro e w3 hR
    obtain ⟨A3, B3, c3, d3, rfl, hA, hB, hb, nA, nB⟩ := hR.as (show downO a a.s = a0 by unfold downO downE; rw [if_pos (by rw [if_pos ⟨HRr.out.1, Int.le_refl _⟩])]; have h := HD.out.1; rw [HM.out] at h; exact h) (show downE a.s a.s = 0 by unfold downE; rw [if_pos ⟨HRr.out.1, Int.le_refl _⟩])
    have HN3 := Lib.hid (And.intro (nA.mono HT2.out.sz) (nB.mono HT2.out.sz))
    have HT3 := Lib.hid (HT2.out.below hb)
    have HAB := Lib.hid (And.intro hA hB)
    clear hd hR hA hB hb nA nB HT2
    obtain ⟨x0, x1, x2, x3, x4, x5, x6, x7⟩ := HT3.out.X.cells
    obtain ⟨y0, y1, y2, y3, y4, y5, y6, y7⟩ := HT3.out.Y.cells
    have l0 := HT3.out.X.lt
    have l1 := HT3.out.Y.lt
    obtain ⟨f0, f1, f2, f3, f4, f5, f6, f7⟩ := HT3.out.X.frozen
    simp only [hvA]
    go_wp2_with fail
    clear x0 x1 x2 x3 x4 x5 x6 x7 y0 y1 y2 y3 y4 y5 y6 y7 l0 l1 f0 f1 f2 f3 f4 f5 f6 f7
    have HT4 := Lib.hid (HT3.out.setX (c3 := c3) (d3 := d3) HAB.out.1 HAB.out.2 (.inr (HN3.out.1.ne HS0.out.1)) (.inr (HN3.out.2.ne HS0.out.1)) (.inr (HN4.out.1.ne HS0.out.1)) (.inr (HN4.out.2.ne HS0.out.1)))
    generalize hW : ((((((((w3.setCell ⟨w.heap.size, 0, none⟩ (.int .i64 a0.k)).setCell ⟨w.heap.size, 1, none⟩ (.int .i64 a0.s)).setCell ⟨w.heap.size, 2, none⟩ (.int .i64 a0.z)).setCell ⟨w.heap.size, 3, none⟩ (.int .u64 a0.zc)).setCell ⟨w.heap.size, 4, none⟩ (.int .u64 a0.ct)).setCell ⟨w.heap.size, 5, none⟩ (.int .i64 a0.sm)).setCell ⟨w.heap.size, 6, none⟩ (.slice A3 a0.P.length c3)).setCell ⟨w.heap.size, 7, none⟩ (.slice B3 a0.Q.length d3)) = w4
    have hW' : set8 w3 (w.heap.size) (.int .i64 a0.k) (.int .i64 a0.s) (.int .i64 a0.z) (.int .u64 a0.zc) (.int .u64 a0.ct) (.int .i64 a0.sm) (.slice A3 a0.P.length c3) (.slice B3 a0.Q.length d3) = w4 := hW
    rw [hW'] at HT4
    clear hW hW' HT3 HAB
    have HOK := Lib.hid (show Ok a0 ∧ Ok b0 from ⟨by rw [← HD.out.1]; exact down_ok HO.out.1 (min_right HO.out.1 HO.out.2) (Int.min_le_left _ _), by rw [← HD.out.2]; exact down_ok HO.out.2 (min_right HO.out.1 HO.out.2) (Int.min_le_right _ _)⟩)
    have HR0 := Lib.hid (show RkRel w w0 a0 b0 w4 from ⟨a0, b0, A3, B3, A4, B4, c3, d3, c4, d4, HT4.out, ⟨HN3.out, HN4.out⟩, HOK.out, fun _ _ h => h⟩)
    clear HT4 HN3 HN4 HM HRr HLe
    go_loopw [] (fun wr => Hid (RkRel w w0 a0 b0 wr)) (fun wr => (262144 - max (zAt wr w.heap.size) (zAt wr (w.heap.size + 1))).toNat * 2 + (if zAt wr w.heap.size = zAt wr (w.heap.size + 1) then 0 else 1))
    case atStart => exact HR0
    case round =>
      have HR := hrel
      clear HR0 hrel
      obtain ⟨wo, hwo, HR⟩ : ∃ W, W = _ ∧ Hid (RkRel w w0 a0 b0 W) := ⟨_, rfl, HR⟩
      subst hwo
      obtain ⟨x, y, A1, B1, A2, B2, c1, d1, c2, d2, hT, hN, hO, hK⟩ := HR.out
      have HTr := Lib.hid hT
      have HNr := Lib.hid hN
      have HOr := Lib.hid hO
      have HKr := Lib.hid hK
      clear hT hN hO hK HR
      obtain ⟨x0, x1, x2, x3, x4, x5, x6, x7⟩ := HTr.out.X.cells
      obtain ⟨y0, y1, y2, y3, y4, y5, y6, y7⟩ := HTr.out.Y.cells
      have l0 := HTr.out.X.lt
      have l1 := HTr.out.Y.lt
      have HM := Lib.hid (show zAt wo w.heap.size = x.z ∧ zAt wo (w.heap.size + 1) = y.z from ⟨by unfold zAt; rw [x2]; rfl, by unfold zAt; rw [y2]; rfl⟩)
      by_cases hz : x.z = y.z
      · have hz1 : (x.z != y.z) = false := by simpa using hz
        have HZE := Lib.hid hz
        clear hz
        go_wp2_with fail
        have HE := Lib.hid (show ∃ p q, Alk a0 b0 p q ∧ RetP w p q (.returned (.tuple #[.agg #[.int .i64 x.k, .int .i64 x.s, .int .i64 x.z, .int .u64 x.zc, .int .u64 x.ct, .int .i64 x.sm, .slice A1 x.P.length c1, .slice B1 x.Q.length d1], .agg #[.int .i64 y.k, .int .i64 y.s, .int .i64 y.z, .int .u64 y.zc, .int .u64 y.ct, .int .i64 y.sm, .slice A2 y.P.length c2, .slice B2 y.Q.length d2]])) (set8 (set8 wo (w.heap.size + 1 + 1) (.int .i64 x.k) (.int .i64 x.s) (.int .i64 x.z) (.int .u64 x.zc) (.int .u64 x.ct) (.int .i64 x.sm) (.slice A1 x.P.length c1) (.slice B1 x.Q.length d1)) (w.heap.size + 1 + 1 + 1) (.int .i64 y.k) (.int .i64 y.s) (.int .i64 y.z) (.int .u64 y.zc) (.int .u64 y.ct) (.int .i64 y.sm) (.slice A2 y.P.length c2) (.slice B2 y.Q.length d2)) from ⟨x, y, HKr.out x y (.done HZE.out), A1, B1, A2, B2, c1, d1, c2, d2, rfl, ⟨(HTr.out.hA.set8 (HNr.out.1.1.ne HS0.out.2.2.1) _ _ _ _ _ _ _ _).set8 (HNr.out.1.1.ne HS0.out.2.2.2) _ _ _ _ _ _ _ _, (HTr.out.hB.set8 (HNr.out.1.2.ne HS0.out.2.2.1) _ _ _ _ _ _ _ _).set8 (HNr.out.1.2.ne HS0.out.2.2.2) _ _ _ _ _ _ _ _, (HTr.out.hA'.set8 (HNr.out.2.1.ne HS0.out.2.2.1) _ _ _ _ _ _ _ _).set8 (HNr.out.2.1.ne HS0.out.2.2.2) _ _ _ _ _ _ _ _, (HTr.out.hB'.set8 (HNr.out.2.2.ne HS0.out.2.2.1) _ _ _ _ _ _ _ _).set8 (HNr.out.2.2.ne HS0.out.2.2.2) _ _ _ _ _ _ _ _⟩,
          below_set8 (below_set8 HTr.out.b (by omega : w.heap.size ≤ w.heap.size + 1 + 1) _ _ _ _ _ _ _ _) (by omega : w.heap.size ≤ w.heap.size + 1 + 1 + 1) _ _ _ _ _ _ _ _, HNr.out.1.1.mono HBs.out, HNr.out.1.2.mono HBs.out, HNr.out.2.1.mono HBs.out, HNr.out.2.2.mono HBs.out⟩)
        have HF := Lib.hid (And.intro (Box.off8 (HTr.out.Z.put8 (.int .i64 x.k) (.int .i64 x.s) (.int .i64 x.z) (.int .u64 x.zc) (.int .u64 x.ct) (.int .i64 x.sm) (.slice A1 x.P.length c1) (.slice B1 x.Q.length d1)) (show w.heap.size + 1 + 1 ≠ w.heap.size + 1 + 1 + 1 by omega) (.int .i64 y.k) (.int .i64 y.s) (.int .i64 y.z) (.int .u64 y.zc) (.int .u64 y.ct) (.int .i64 y.sm) (.slice A2 y.P.length c2) (.slice B2 y.Q.length d2)) (Box.put8 (HTr.out.V.off8 (show w.heap.size + 1 + 1 + 1 ≠ w.heap.size + 1 + 1 by omega) (.int .i64 x.k) (.int .i64 x.s) (.int .i64 x.z) (.int .u64 x.zc) (.int .u64 x.ct) (.int .i64 x.sm) (.slice A1 x.P.length c1) (.slice B1 x.Q.length d1)) (.int .i64 y.k) (.int .i64 y.s) (.int .i64 y.z) (.int .u64 y.zc) (.int .u64 y.ct) (.int .i64 y.sm) (.slice A2 y.P.length c2) (.slice B2 y.Q.length d2)))
        obtain ⟨z0, z1, z2, z3, z4, z5, z6, z7⟩ := HTr.out.Z.cells
        obtain ⟨g0, g1, g2, g3, g4, g5, g6, g7⟩ := HTr.out.Z.frozen
        obtain ⟨t0, t1, t2, t3, t4, t5, t6, t7⟩ := HTr.out.V.cells
        obtain ⟨h0, h1, h2, h3, h4, h5, h6, h7⟩ := HTr.out.V.frozen
        have e2 := HTr.out.Z.lt
        have e3 := HTr.out.V.lt
        clear HM
        go_region_with (fail)
        all_goals (go_wp2_with fail)
        all_goals
          clear x0 x1 x2 x3 x4 x5 x6 x7 y0 y1 y2 y3 y4 y5 y6 y7 l0 l1 z0 z1 z2 z3 z4 z5 z6 z7 t0 t1 t2 t3 t4 t5 t6 t7 g0 g1 g2 g3 g4 g5 g6 g7 h0 h1 h2 h3 h4 h5 h6 h7 e2 e3
          generalize hW : ((((((((((((((((wo.setCell ⟨w.heap.size + 1 + 1, 0, none⟩ (.int .i64 x.k)).setCell ⟨w.heap.size + 1 + 1, 1, none⟩ (.int .i64 x.s)).setCell ⟨w.heap.size + 1 + 1, 2, none⟩ (.int .i64 x.z)).setCell ⟨w.heap.size + 1 + 1, 3, none⟩ (.int .u64 x.zc)).setCell ⟨w.heap.size + 1 + 1, 4, none⟩ (.int .u64 x.ct)).setCell ⟨w.heap.size + 1 + 1, 5, none⟩ (.int .i64 x.sm)).setCell ⟨w.heap.size + 1 + 1, 6, none⟩ (.slice A1 x.P.length c1)).setCell ⟨w.heap.size + 1 + 1, 7, none⟩ (.slice B1 x.Q.length d1)).setCell ⟨w.heap.size + 1 + 1 + 1, 0, none⟩ (.int .i64 y.k)).setCell ⟨w.heap.size + 1 + 1 + 1, 1, none⟩ (.int .i64 y.s)).setCell ⟨w.heap.size + 1 + 1 + 1, 2, none⟩ (.int .i64 y.z)).setCell ⟨w.heap.size + 1 + 1 + 1, 3, none⟩ (.int .u64 y.zc)).setCell ⟨w.heap.size + 1 + 1 + 1, 4, none⟩ (.int .u64 y.ct)).setCell ⟨w.heap.size + 1 + 1 + 1, 5, none⟩ (.int .i64 y.sm)).setCell ⟨w.heap.size + 1 + 1 + 1, 6, none⟩ (.slice A2 y.P.length c2)).setCell ⟨w.heap.size + 1 + 1 + 1, 7, none⟩ (.slice B2 y.Q.length d2)) = w9
          have hW' : set8 (set8 wo (w.heap.size + 1 + 1) (.int .i64 x.k) (.int .i64 x.s) (.int .i64 x.z) (.int .u64 x.zc) (.int .u64 x.ct) (.int .i64 x.sm) (.slice A1 x.P.length c1) (.slice B1 x.Q.length d1)) (w.heap.size + 1 + 1 + 1) (.int .i64 y.k) (.int .i64 y.s) (.int .i64 y.z) (.int .u64 y.zc) (.int .u64 y.ct) (.int .i64 y.sm) (.slice A2 y.P.length c2) (.slice B2 y.Q.length d2) = w9 := hW
          rw [hW'] at HE HF
          obtain ⟨z0, z1, z2, z3, z4, z5, z6, z7⟩ := HF.out.1.cells
          obtain ⟨t0, t1, t2, t3, t4, t5, t6, t7⟩ := HF.out.2.cells
          obtain ⟨p, q, hk, h⟩ := HE.out
          refine bodyPost_ret (v := .tuple #[.agg #[.int .i64 x.k, .int .i64 x.s, .int .i64 x.z, .int .u64 x.zc, .int .u64 x.ct, .int .i64 x.sm, .slice A1 x.P.length c1, .slice B1 x.Q.length d1], .agg #[.int .i64 y.k, .int .i64 y.s, .int .i64 y.z, .int .u64 y.zc, .int .u64 y.ct, .int .i64 y.sm, .slice A2 y.P.length c2, .slice B2 y.Q.length d2]]) (by simp [results, Try.results18, go_sem, z0, z1, z2, z3, z4, z5, z6, z7, t0, t1, t2, t3, t4, t5, t6, t7]) rfl ⟨p, q, hk, by first | exact h | exact RetP.drew h⟩
      · have hz1 : (x.z != y.z) = true := by simpa using hz
        by_cases hlt : x.z < y.z
        · have dq : decide (x.z < y.z) = true := by simpa using hlt
          obtain ⟨r, hr⟩ : ∃ r, swF x y.z = r := ⟨_, rfl⟩
          have hzz : zr y.z := HOr.out.2.z
          have HOk2 := Lib.hid (show Ok r by rw [← hr]; exact sw_ok HOr.out.1 hzz)
          have HWE := Lib.hid (show widenO x y.z = r ∧ widenE x.z y.z = 0 from by
            have h0 : widenE x.z y.z = 0 := by unfold widenE; rw [if_neg]; have hx := HOr.out.1.z; unfold zr at hzz hx; omega
            exact ⟨by unfold widenO; rw [h0, if_pos rfl, hr], h0⟩)
          have HLess := Lib.hid (show (262144 - max r.z y.z).toNat * 2 + (if r.z = y.z then 0 else 1) < (262144 - max x.z y.z).toNat * 2 + (if x.z = y.z then 0 else 1) from by
            have hl := ak_less HOr.out.1 HOr.out.2 hz (m := y.z) (by omega)
            rw [hr, sw_self HOr.out.2] at hl
            exact hl)
          have HK2 := Lib.hid (show ∀ p q, Alk r y p q → Alk a0 b0 p q from fun p q h => HKr.out p q (.step hz (by
            have hm : max x.z y.z = y.z := by omega
            rw [hm, hr, sw_self HOr.out.2]
            exact h)))
          clear hz hr hzz
          go_wp2_with fail
          clear x0 x1 x2 x3 x4 x5 x6 x7 y0 y1 y2 y3 y4 y5 y6 y7 l0 l1
          have hd := refwiden_any x y.z A1 B1 c1 d1 wo HTr.out.hA HTr.out.hB HOr.out.1
          refine hd.mono ?_
          intro e w5 hR
          obtain ⟨A3, B3, c3, d3, rfl, hA, hB, hb, hn⟩ := hR.as HWE.out.1 HWE.out.2
          have HN3 := Lib.hid (hn w0 HTr.out.sz HNr.out.1.1 HNr.out.1.2)
          have HT5 := Lib.hid (HTr.out.below hb)
          have HAB := Lib.hid (And.intro hA hB)
          clear hd hR hA hB hb hn
          obtain ⟨x0, x1, x2, x3, x4, x5, x6, x7⟩ := HT5.out.X.cells
          obtain ⟨y0, y1, y2, y3, y4, y5, y6, y7⟩ := HT5.out.Y.cells
          have l0 := HT5.out.X.lt
          have l1 := HT5.out.Y.lt
          obtain ⟨f0, f1, f2, f3, f4, f5, f6, f7⟩ := HT5.out.X.frozen
          simp only [hvA]
          go_wp2_with fail
          clear x0 x1 x2 x3 x4 x5 x6 x7 y0 y1 y2 y3 y4 y5 y6 y7 l0 l1 f0 f1 f2 f3 f4 f5 f6 f7
          have HT6 := Lib.hid (HT5.out.setX (c3 := c3) (d3 := d3) HAB.out.1 HAB.out.2 (.inr (HN3.out.1.ne HS0.out.1)) (.inr (HN3.out.2.ne HS0.out.1)) (.inr (HNr.out.2.1.ne HS0.out.1)) (.inr (HNr.out.2.2.ne HS0.out.1)))
          generalize hW : ((((((((w5.setCell ⟨w.heap.size, 0, none⟩ (.int .i64 r.k)).setCell ⟨w.heap.size, 1, none⟩ (.int .i64 r.s)).setCell ⟨w.heap.size, 2, none⟩ (.int .i64 r.z)).setCell ⟨w.heap.size, 3, none⟩ (.int .u64 r.zc)).setCell ⟨w.heap.size, 4, none⟩ (.int .u64 r.ct)).setCell ⟨w.heap.size, 5, none⟩ (.int .i64 r.sm)).setCell ⟨w.heap.size, 6, none⟩ (.slice A3 r.P.length c3)).setCell ⟨w.heap.size, 7, none⟩ (.slice B3 r.Q.length d3)) = w6
          have hW' : set8 w5 (w.heap.size) (.int .i64 r.k) (.int .i64 r.s) (.int .i64 r.z) (.int .u64 r.zc) (.int .u64 r.ct) (.int .i64 r.sm) (.slice A3 r.P.length c3) (.slice B3 r.Q.length d3) = w6 := hW
          rw [hW'] at HT6
          clear hW hW' HT5 HAB
          have HR6 := Lib.hid (show RkRel w w0 a0 b0 w6 from ⟨r, y, A3, B3, A2, B2, c3, d3, c2, d2, HT6.out, ⟨HN3.out, HNr.out.2⟩, ⟨HOk2.out, HOr.out.2⟩, HK2.out⟩)
          have HM6 := Lib.hid (show zAt w6 w.heap.size = r.z ∧ zAt w6 (w.heap.size + 1) = y.z from ⟨by unfold zAt; rw [HT6.out.X.cells.2.2.1]; rfl, by unfold zAt; rw [HT6.out.Y.cells.2.2.1]; rfl⟩)
          go_roundw
          case rel => exact HR6
          case measure =>
            have h1 := HM.out
            have h2 := HM6.out
            rw [h1.1, h1.2, h2.1, h2.2]
            exact HLess.out
        · have dq : decide (x.z < y.z) = false := by simpa using hlt
          obtain ⟨r, hr⟩ : ∃ r, swF y x.z = r := ⟨_, rfl⟩
          have hzz : zr x.z := HOr.out.1.z
          have HOk2 := Lib.hid (show Ok r by rw [← hr]; exact sw_ok HOr.out.2 hzz)
          have HWE := Lib.hid (show widenO y x.z = r ∧ widenE y.z x.z = 0 from by
            have h0 : widenE y.z x.z = 0 := by unfold widenE; rw [if_neg]; have hx := HOr.out.2.z; unfold zr at hzz hx; omega
            exact ⟨by unfold widenO; rw [h0, if_pos rfl, hr], h0⟩)
          have HLess := Lib.hid (show (262144 - max x.z r.z).toNat * 2 + (if x.z = r.z then 0 else 1) < (262144 - max x.z y.z).toNat * 2 + (if x.z = y.z then 0 else 1) from by
            have hl := ak_less HOr.out.1 HOr.out.2 hz (m := x.z) (by omega)
            rw [sw_self HOr.out.1, hr] at hl
            exact hl)
          have HK2 := Lib.hid (show ∀ p q, Alk x r p q → Alk a0 b0 p q from fun p q h => HKr.out p q (.step hz (by
            have hm : max x.z y.z = x.z := by omega
            rw [hm, sw_self HOr.out.1, hr]
            exact h)))
          clear hz hr hzz
          go_wp2_with fail
          clear x0 x1 x2 x3 x4 x5 x6 x7 y0 y1 y2 y3 y4 y5 y6 y7 l0 l1
          have hd := refwiden_any y x.z A2 B2 c2 d2 wo HTr.out.hA' HTr.out.hB' HOr.out.2
          refine hd.mono ?_
          intro e w5 hR
          obtain ⟨A3, B3, c3, d3, rfl, hA, hB, hb, hn⟩ := hR.as HWE.out.1 HWE.out.2
          have HN3 := Lib.hid (hn w0 HTr.out.sz HNr.out.2.1 HNr.out.2.2)
          have HT5 := Lib.hid (HTr.out.below hb)
          have HAB := Lib.hid (And.intro hA hB)
          clear hd hR hA hB hb hn
          obtain ⟨x0, x1, x2, x3, x4, x5, x6, x7⟩ := HT5.out.X.cells
          obtain ⟨y0, y1, y2, y3, y4, y5, y6, y7⟩ := HT5.out.Y.cells
          have l0 := HT5.out.X.lt
          have l1 := HT5.out.Y.lt
          obtain ⟨f0, f1, f2, f3, f4, f5, f6, f7⟩ := HT5.out.Y.frozen
          simp only [hvA]
          go_wp2_with fail
          clear x0 x1 x2 x3 x4 x5 x6 x7 y0 y1 y2 y3 y4 y5 y6 y7 l0 l1 f0 f1 f2 f3 f4 f5 f6 f7
          have HT6 := Lib.hid (HT5.out.setY (c3 := c3) (d3 := d3) HAB.out.1 HAB.out.2 (.inr (HN3.out.1.ne HS0.out.2.1)) (.inr (HN3.out.2.ne HS0.out.2.1)) (.inr (HNr.out.1.1.ne HS0.out.2.1)) (.inr (HNr.out.1.2.ne HS0.out.2.1)))
          generalize hW : ((((((((w5.setCell ⟨w.heap.size + 1, 0, none⟩ (.int .i64 r.k)).setCell ⟨w.heap.size + 1, 1, none⟩ (.int .i64 r.s)).setCell ⟨w.heap.size + 1, 2, none⟩ (.int .i64 r.z)).setCell ⟨w.heap.size + 1, 3, none⟩ (.int .u64 r.zc)).setCell ⟨w.heap.size + 1, 4, none⟩ (.int .u64 r.ct)).setCell ⟨w.heap.size + 1, 5, none⟩ (.int .i64 r.sm)).setCell ⟨w.heap.size + 1, 6, none⟩ (.slice A3 r.P.length c3)).setCell ⟨w.heap.size + 1, 7, none⟩ (.slice B3 r.Q.length d3)) = w6
          have hW' : set8 w5 (w.heap.size + 1) (.int .i64 r.k) (.int .i64 r.s) (.int .i64 r.z) (.int .u64 r.zc) (.int .u64 r.ct) (.int .i64 r.sm) (.slice A3 r.P.length c3) (.slice B3 r.Q.length d3) = w6 := hW
          rw [hW'] at HT6
          clear hW hW' HT5 HAB
          have HR6 := Lib.hid (show RkRel w w0 a0 b0 w6 from ⟨x, r, A1, B1, A3, B3, c1, d1, c3, d3, HT6.out, ⟨HNr.out.1, HN3.out⟩, ⟨HOr.out.1, HOk2.out⟩, HK2.out⟩)
          have HM6 := Lib.hid (show zAt w6 w.heap.size = x.z ∧ zAt w6 (w.heap.size + 1) = r.z from ⟨by unfold zAt; rw [HT6.out.X.cells.2.2.1]; rfl, by unfold zAt; rw [HT6.out.Y.cells.2.2.1]; rfl⟩)
          go_roundw
          case rel => exact HR6
          case measure =>
            have h1 := HM.out
            have h2 := HM6.out
            rw [h1.1, h1.2, h2.1, h2.2]
            exact HLess.out
  · skip
    have d1 : decide (a.s < b.s) = false := by simpa using hlt
    have hm : min a.s b.s = b.s := by omega
    have HM := Lib.hid hm
    have HRr := Lib.hid (And.intro HO.out.1.s HO.out.2.s)
    have hle : b.s ≤ a.s := by omega
    have HLe := Lib.hid hle
    clear hlt hm hle
    obtain ⟨x0, x1, x2, x3, x4, x5, x6, x7⟩ := HT0.out.X.cells
    obtain ⟨y0, y1, y2, y3, y4, y5, y6, y7⟩ := HT0.out.Y.cells
    have l0 := HT0.out.X.lt
    have l1 := HT0.out.Y.lt
    go_wp2_with fail
    clear x0 x1 x2 x3 x4 x5 x6 x7 y0 y1 y2 y3 y4 y5 y6 y7 l0 l1
    generalize ((((w.alloc (.cells #[.int .i64 a.k, .int .i64 a.s, .int .i64 a.z, .int .u64 a.zc, .int .u64 a.ct, .int .i64 a.sm, .slice A a.P.length c, .slice B a.Q.length d] 25)).alloc (.cells #[.int .i64 b.k, .int .i64 b.s, .int .i64 b.z, .int .u64 b.zc, .int .u64 b.ct, .int .i64 b.sm, .slice A' b.P.length c', .slice B' b.Q.length d'] 25)).alloc (.cells #[.int .i64 0, .int .i64 0, .int .i64 0, .int .u64 0, .int .u64 0, .int .i64 0, .slice none 0 0, .slice none 0 0] 25)).alloc (.cells #[.int .i64 0, .int .i64 0, .int .i64 0, .int .u64 0, .int .u64 0, .int .i64 0, .slice none 0 0, .slice none 0 0] 25)) = w0 at *
    have hd := refdown_any a b.s A B c d w0 HT0.out.hA HT0.out.hB HO.out.1
    refine hd.mono ?_
    intro e w1 hR
    obtain ⟨A3, B3, c3, d3, rfl, hA, hB, hb, nA, nB⟩ := hR.as (show downO a b.s = a0 by unfold downO downE; rw [if_pos (by rw [if_pos ⟨HRr.out.2, HLe.out⟩]), ← HM.out]; exact HD.out.1) (show downE a.s b.s = 0 by unfold downE; rw [if_pos ⟨HRr.out.2, HLe.out⟩])
    have HS0 := Lib.hid (And.intro HT0.out.X.lt (And.intro HT0.out.Y.lt (And.intro HT0.out.Z.lt HT0.out.V.lt)))
    have HN3 := Lib.hid (And.intro nA nB)
    have HT1 := Lib.hid (HT0.out.below hb)
    have HAB := Lib.hid (And.intro hA hB)
    clear hd hR hA hB hb nA nB HT0
    obtain ⟨x0, x1, x2, x3, x4, x5, x6, x7⟩ := HT1.out.X.cells
    obtain ⟨y0, y1, y2, y3, y4, y5, y6, y7⟩ := HT1.out.Y.cells
    have l0 := HT1.out.X.lt
    have l1 := HT1.out.Y.lt
    obtain ⟨f0, f1, f2, f3, f4, f5, f6, f7⟩ := HT1.out.X.frozen
    simp only [hvA]
    go_wp2_with fail
    clear x0 x1 x2 x3 x4 x5 x6 x7 y0 y1 y2 y3 y4 y5 y6 y7 l0 l1 f0 f1 f2 f3 f4 f5 f6 f7
    have HT2 := Lib.hid (HT1.out.setX (c3 := c3) (d3 := d3) HAB.out.1 HAB.out.2 (.inr (HN3.out.1.ne HS0.out.1)) (.inr (HN3.out.2.ne HS0.out.1)) (HKw.out.2.1.ne_lt (by omega)) (HKw.out.2.2.ne_lt (by omega)))
    generalize hW : ((((((((w1.setCell ⟨w.heap.size, 0, none⟩ (.int .i64 a0.k)).setCell ⟨w.heap.size, 1, none⟩ (.int .i64 a0.s)).setCell ⟨w.heap.size, 2, none⟩ (.int .i64 a0.z)).setCell ⟨w.heap.size, 3, none⟩ (.int .u64 a0.zc)).setCell ⟨w.heap.size, 4, none⟩ (.int .u64 a0.ct)).setCell ⟨w.heap.size, 5, none⟩ (.int .i64 a0.sm)).setCell ⟨w.heap.size, 6, none⟩ (.slice A3 a0.P.length c3)).setCell ⟨w.heap.size, 7, none⟩ (.slice B3 a0.Q.length d3)) = w2
    have hW' : set8 w1 (w.heap.size) (.int .i64 a0.k) (.int .i64 a0.s) (.int .i64 a0.z) (.int .u64 a0.zc) (.int .u64 a0.ct) (.int .i64 a0.sm) (.slice A3 a0.P.length c3) (.slice B3 a0.Q.length d3) = w2 := hW
    rw [hW'] at HT2
    clear hW hW' HT1 HAB
    have hd := refdown_any b b.s A' B' c' d' w2 HT2.out.hA' HT2.out.hB' HO.out.2
    refine hd.mono ?_
    intro e w3 hR
    obtain ⟨A4, B4, c4, d4, rfl, hA, hB, hb, nA, nB⟩ := hR.as (show downO b b.s = b0 by unfold downO downE; rw [if_pos (by rw [if_pos ⟨HRr.out.2, Int.le_refl _⟩])]; have h := HD.out.2; rw [HM.out] at h; exact h) (show downE b.s b.s = 0 by unfold downE; rw [if_pos ⟨HRr.out.2, Int.le_refl _⟩])
    have HN4 := Lib.hid (And.intro (nA.mono HT2.out.sz) (nB.mono HT2.out.sz))
    have HT3 := Lib.hid (HT2.out.below hb)
    have HAB := Lib.hid (And.intro hA hB)
    clear hd hR hA hB hb nA nB HT2
    obtain ⟨x0, x1, x2, x3, x4, x5, x6, x7⟩ := HT3.out.X.cells
    obtain ⟨y0, y1, y2, y3, y4, y5, y6, y7⟩ := HT3.out.Y.cells
    have l0 := HT3.out.X.lt
    have l1 := HT3.out.Y.lt
    obtain ⟨f0, f1, f2, f3, f4, f5, f6, f7⟩ := HT3.out.Y.frozen
    simp only [hvA]
    go_wp2_with fail
    clear x0 x1 x2 x3 x4 x5 x6 x7 y0 y1 y2 y3 y4 y5 y6 y7 l0 l1 f0 f1 f2 f3 f4 f5 f6 f7
    have HT4 := Lib.hid (HT3.out.setY (c3 := c4) (d3 := d4) HAB.out.1 HAB.out.2 (.inr (HN4.out.1.ne HS0.out.2.1)) (.inr (HN4.out.2.ne HS0.out.2.1)) (.inr (HN3.out.1.ne HS0.out.2.1)) (.inr (HN3.out.2.ne HS0.out.2.1)))
    generalize hW : ((((((((w3.setCell ⟨w.heap.size + 1, 0, none⟩ (.int .i64 b0.k)).setCell ⟨w.heap.size + 1, 1, none⟩ (.int .i64 b0.s)).setCell ⟨w.heap.size + 1, 2, none⟩ (.int .i64 b0.z)).setCell ⟨w.heap.size + 1, 3, none⟩ (.int .u64 b0.zc)).setCell ⟨w.heap.size + 1, 4, none⟩ (.int .u64 b0.ct)).setCell ⟨w.heap.size + 1, 5, none⟩ (.int .i64 b0.sm)).setCell ⟨w.heap.size + 1, 6, none⟩ (.slice A4 b0.P.length c4)).setCell ⟨w.heap.size + 1, 7, none⟩ (.slice B4 b0.Q.length d4)) = w4
    have hW' : set8 w3 (w.heap.size + 1) (.int .i64 b0.k) (.int .i64 b0.s) (.int .i64 b0.z) (.int .u64 b0.zc) (.int .u64 b0.ct) (.int .i64 b0.sm) (.slice A4 b0.P.length c4) (.slice B4 b0.Q.length d4) = w4 := hW
    rw [hW'] at HT4
    clear hW hW' HT3 HAB
    have HOK := Lib.hid (show Ok a0 ∧ Ok b0 from ⟨by rw [← HD.out.1]; exact down_ok HO.out.1 (min_right HO.out.1 HO.out.2) (Int.min_le_left _ _), by rw [← HD.out.2]; exact down_ok HO.out.2 (min_right HO.out.1 HO.out.2) (Int.min_le_right _ _)⟩)
    have HR0 := Lib.hid (show RkRel w w0 a0 b0 w4 from ⟨a0, b0, A3, B3, A4, B4, c3, d3, c4, d4, HT4.out, ⟨HN3.out, HN4.out⟩, HOK.out, fun _ _ h => h⟩)
    clear HT4 HN3 HN4 HM HRr HLe
    go_loopw [] (fun wr => Hid (RkRel w w0 a0 b0 wr)) (fun wr => (262144 - max (zAt wr w.heap.size) (zAt wr (w.heap.size + 1))).toNat * 2 + (if zAt wr w.heap.size = zAt wr (w.heap.size + 1) then 0 else 1))
    case atStart => exact HR0
    case round =>
      have HR := hrel
      clear HR0 hrel
      obtain ⟨wo, hwo, HR⟩ : ∃ W, W = _ ∧ Hid (RkRel w w0 a0 b0 W) := ⟨_, rfl, HR⟩
      subst hwo
      obtain ⟨x, y, A1, B1, A2, B2, c1, d1, c2, d2, hT, hN, hO, hK⟩ := HR.out
      have HTr := Lib.hid hT
      have HNr := Lib.hid hN
      have HOr := Lib.hid hO
      have HKr := Lib.hid hK
      clear hT hN hO hK HR
      obtain ⟨x0, x1, x2, x3, x4, x5, x6, x7⟩ := HTr.out.X.cells
      obtain ⟨y0, y1, y2, y3, y4, y5, y6, y7⟩ := HTr.out.Y.cells
      have l0 := HTr.out.X.lt
      have l1 := HTr.out.Y.lt
      have HM := Lib.hid (show zAt wo w.heap.size = x.z ∧ zAt wo (w.heap.size + 1) = y.z from ⟨by unfold zAt; rw [x2]; rfl, by unfold zAt; rw [y2]; rfl⟩)
      by_cases hz : x.z = y.z
      · have hz1 : (x.z != y.z) = false := by simpa using hz
        have HZE := Lib.hid hz
        clear hz
        go_wp2_with fail
        have HE := Lib.hid (show ∃ p q, Alk a0 b0 p q ∧ RetP w p q (.returned (.tuple #[.agg #[.int .i64 x.k, .int .i64 x.s, .int .i64 x.z, .int .u64 x.zc, .int .u64 x.ct, .int .i64 x.sm, .slice A1 x.P.length c1, .slice B1 x.Q.length d1], .agg #[.int .i64 y.k, .int .i64 y.s, .int .i64 y.z, .int .u64 y.zc, .int .u64 y.ct, .int .i64 y.sm, .slice A2 y.P.length c2, .slice B2 y.Q.length d2]])) (set8 (set8 wo (w.heap.size + 1 + 1) (.int .i64 x.k) (.int .i64 x.s) (.int .i64 x.z) (.int .u64 x.zc) (.int .u64 x.ct) (.int .i64 x.sm) (.slice A1 x.P.length c1) (.slice B1 x.Q.length d1)) (w.heap.size + 1 + 1 + 1) (.int .i64 y.k) (.int .i64 y.s) (.int .i64 y.z) (.int .u64 y.zc) (.int .u64 y.ct) (.int .i64 y.sm) (.slice A2 y.P.length c2) (.slice B2 y.Q.length d2)) from ⟨x, y, HKr.out x y (.done HZE.out), A1, B1, A2, B2, c1, d1, c2, d2, rfl, ⟨(HTr.out.hA.set8 (HNr.out.1.1.ne HS0.out.2.2.1) _ _ _ _ _ _ _ _).set8 (HNr.out.1.1.ne HS0.out.2.2.2) _ _ _ _ _ _ _ _, (HTr.out.hB.set8 (HNr.out.1.2.ne HS0.out.2.2.1) _ _ _ _ _ _ _ _).set8 (HNr.out.1.2.ne HS0.out.2.2.2) _ _ _ _ _ _ _ _, (HTr.out.hA'.set8 (HNr.out.2.1.ne HS0.out.2.2.1) _ _ _ _ _ _ _ _).set8 (HNr.out.2.1.ne HS0.out.2.2.2) _ _ _ _ _ _ _ _, (HTr.out.hB'.set8 (HNr.out.2.2.ne HS0.out.2.2.1) _ _ _ _ _ _ _ _).set8 (HNr.out.2.2.ne HS0.out.2.2.2) _ _ _ _ _ _ _ _⟩,
          below_set8 (below_set8 HTr.out.b (by omega : w.heap.size ≤ w.heap.size + 1 + 1) _ _ _ _ _ _ _ _) (by omega : w.heap.size ≤ w.heap.size + 1 + 1 + 1) _ _ _ _ _ _ _ _, HNr.out.1.1.mono HBs.out, HNr.out.1.2.mono HBs.out, HNr.out.2.1.mono HBs.out, HNr.out.2.2.mono HBs.out⟩)
        have HF := Lib.hid (And.intro (Box.off8 (HTr.out.Z.put8 (.int .i64 x.k) (.int .i64 x.s) (.int .i64 x.z) (.int .u64 x.zc) (.int .u64 x.ct) (.int .i64 x.sm) (.slice A1 x.P.length c1) (.slice B1 x.Q.length d1)) (show w.heap.size + 1 + 1 ≠ w.heap.size + 1 + 1 + 1 by omega) (.int .i64 y.k) (.int .i64 y.s) (.int .i64 y.z) (.int .u64 y.zc) (.int .u64 y.ct) (.int .i64 y.sm) (.slice A2 y.P.length c2) (.slice B2 y.Q.length d2)) (Box.put8 (HTr.out.V.off8 (show w.heap.size + 1 + 1 + 1 ≠ w.heap.size + 1 + 1 by omega) (.int .i64 x.k) (.int .i64 x.s) (.int .i64 x.z) (.int .u64 x.zc) (.int .u64 x.ct) (.int .i64 x.sm) (.slice A1 x.P.length c1) (.slice B1 x.Q.length d1)) (.int .i64 y.k) (.int .i64 y.s) (.int .i64 y.z) (.int .u64 y.zc) (.int .u64 y.ct) (.int .i64 y.sm) (.slice A2 y.P.length c2) (.slice B2 y.Q.length d2)))
        obtain ⟨z0, z1, z2, z3, z4, z5, z6, z7⟩ := HTr.out.Z.cells
        obtain ⟨g0, g1, g2, g3, g4, g5, g6, g7⟩ := HTr.out.Z.frozen
        obtain ⟨t0, t1, t2, t3, t4, t5, t6, t7⟩ := HTr.out.V.cells
        obtain ⟨h0, h1, h2, h3, h4, h5, h6, h7⟩ := HTr.out.V.frozen
        have e2 := HTr.out.Z.lt
        have e3 := HTr.out.V.lt
        clear HM
        go_region_with (fail)
        all_goals (go_wp2_with fail)
        all_goals
          clear x0 x1 x2 x3 x4 x5 x6 x7 y0 y1 y2 y3 y4 y5 y6 y7 l0 l1 z0 z1 z2 z3 z4 z5 z6 z7 t0 t1 t2 t3 t4 t5 t6 t7 g0 g1 g2 g3 g4 g5 g6 g7 h0 h1 h2 h3 h4 h5 h6 h7 e2 e3
          generalize hW : ((((((((((((((((wo.setCell ⟨w.heap.size + 1 + 1, 0, none⟩ (.int .i64 x.k)).setCell ⟨w.heap.size + 1 + 1, 1, none⟩ (.int .i64 x.s)).setCell ⟨w.heap.size + 1 + 1, 2, none⟩ (.int .i64 x.z)).setCell ⟨w.heap.size + 1 + 1, 3, none⟩ (.int .u64 x.zc)).setCell ⟨w.heap.size + 1 + 1, 4, none⟩ (.int .u64 x.ct)).setCell ⟨w.heap.size + 1 + 1, 5, none⟩ (.int .i64 x.sm)).setCell ⟨w.heap.size + 1 + 1, 6, none⟩ (.slice A1 x.P.length c1)).setCell ⟨w.heap.size + 1 + 1, 7, none⟩ (.slice B1 x.Q.length d1)).setCell ⟨w.heap.size + 1 + 1 + 1, 0, none⟩ (.int .i64 y.k)).setCell ⟨w.heap.size + 1 + 1 + 1, 1, none⟩ (.int .i64 y.s)).setCell ⟨w.heap.size + 1 + 1 + 1, 2, none⟩ (.int .i64 y.z)).setCell ⟨w.heap.size + 1 + 1 + 1, 3, none⟩ (.int .u64 y.zc)).setCell ⟨w.heap.size + 1 + 1 + 1, 4, none⟩ (.int .u64 y.ct)).setCell ⟨w.heap.size + 1 + 1 + 1, 5, none⟩ (.int .i64 y.sm)).setCell ⟨w.heap.size + 1 + 1 + 1, 6, none⟩ (.slice A2 y.P.length c2)).setCell ⟨w.heap.size + 1 + 1 + 1, 7, none⟩ (.slice B2 y.Q.length d2)) = w9
          have hW' : set8 (set8 wo (w.heap.size + 1 + 1) (.int .i64 x.k) (.int .i64 x.s) (.int .i64 x.z) (.int .u64 x.zc) (.int .u64 x.ct) (.int .i64 x.sm) (.slice A1 x.P.length c1) (.slice B1 x.Q.length d1)) (w.heap.size + 1 + 1 + 1) (.int .i64 y.k) (.int .i64 y.s) (.int .i64 y.z) (.int .u64 y.zc) (.int .u64 y.ct) (.int .i64 y.sm) (.slice A2 y.P.length c2) (.slice B2 y.Q.length d2) = w9 := hW
          rw [hW'] at HE HF
          obtain ⟨z0, z1, z2, z3, z4, z5, z6, z7⟩ := HF.out.1.cells
          obtain ⟨t0, t1, t2, t3, t4, t5, t6, t7⟩ := HF.out.2.cells
          obtain ⟨p, q, hk, h⟩ := HE.out
          refine bodyPost_ret (v := .tuple #[.agg #[.int .i64 x.k, .int .i64 x.s, .int .i64 x.z, .int .u64 x.zc, .int .u64 x.ct, .int .i64 x.sm, .slice A1 x.P.length c1, .slice B1 x.Q.length d1], .agg #[.int .i64 y.k, .int .i64 y.s, .int .i64 y.z, .int .u64 y.zc, .int .u64 y.ct, .int .i64 y.sm, .slice A2 y.P.length c2, .slice B2 y.Q.length d2]]) (by simp [results, Try.results18, go_sem, z0, z1, z2, z3, z4, z5, z6, z7, t0, t1, t2, t3, t4, t5, t6, t7]) rfl ⟨p, q, hk, by first | exact h | exact RetP.drew h⟩
      · have hz1 : (x.z != y.z) = true := by simpa using hz
        by_cases hlt : x.z < y.z
        · have dq : decide (x.z < y.z) = true := by simpa using hlt
          obtain ⟨r, hr⟩ : ∃ r, swF x y.z = r := ⟨_, rfl⟩
          have hzz : zr y.z := HOr.out.2.z
          have HOk2 := Lib.hid (show Ok r by rw [← hr]; exact sw_ok HOr.out.1 hzz)
          have HWE := Lib.hid (show widenO x y.z = r ∧ widenE x.z y.z = 0 from by
            have h0 : widenE x.z y.z = 0 := by unfold widenE; rw [if_neg]; have hx := HOr.out.1.z; unfold zr at hzz hx; omega
            exact ⟨by unfold widenO; rw [h0, if_pos rfl, hr], h0⟩)
          have HLess := Lib.hid (show (262144 - max r.z y.z).toNat * 2 + (if r.z = y.z then 0 else 1) < (262144 - max x.z y.z).toNat * 2 + (if x.z = y.z then 0 else 1) from by
            have hl := ak_less HOr.out.1 HOr.out.2 hz (m := y.z) (by omega)
            rw [hr, sw_self HOr.out.2] at hl
            exact hl)
          have HK2 := Lib.hid (show ∀ p q, Alk r y p q → Alk a0 b0 p q from fun p q h => HKr.out p q (.step hz (by
            have hm : max x.z y.z = y.z := by omega
            rw [hm, hr, sw_self HOr.out.2]
            exact h)))
          clear hz hr hzz
          go_wp2_with fail
          clear x0 x1 x2 x3 x4 x5 x6 x7 y0 y1 y2 y3 y4 y5 y6 y7 l0 l1
          have hd := refwiden_any x y.z A1 B1 c1 d1 wo HTr.out.hA HTr.out.hB HOr.out.1
          refine hd.mono ?_
          intro e w5 hR
          obtain ⟨A3, B3, c3, d3, rfl, hA, hB, hb, hn⟩ := hR.as HWE.out.1 HWE.out.2
          have HN3 := Lib.hid (hn w0 HTr.out.sz HNr.out.1.1 HNr.out.1.2)
          have HT5 := Lib.hid (HTr.out.below hb)
          have HAB := Lib.hid (And.intro hA hB)
          clear hd hR hA hB hb hn
          obtain ⟨x0, x1, x2, x3, x4, x5, x6, x7⟩ := HT5.out.X.cells
          obtain ⟨y0, y1, y2, y3, y4, y5, y6, y7⟩ := HT5.out.Y.cells
          have l0 := HT5.out.X.lt
          have l1 := HT5.out.Y.lt
          obtain ⟨f0, f1, f2, f3, f4, f5, f6, f7⟩ := HT5.out.X.frozen
          simp only [hvA]
          go_wp2_with fail
          clear x0 x1 x2 x3 x4 x5 x6 x7 y0 y1 y2 y3 y4 y5 y6 y7 l0 l1 f0 f1 f2 f3 f4 f5 f6 f7
          have HT6 := Lib.hid (HT5.out.setX (c3 := c3) (d3 := d3) HAB.out.1 HAB.out.2 (.inr (HN3.out.1.ne HS0.out.1)) (.inr (HN3.out.2.ne HS0.out.1)) (.inr (HNr.out.2.1.ne HS0.out.1)) (.inr (HNr.out.2.2.ne HS0.out.1)))
          generalize hW : ((((((((w5.setCell ⟨w.heap.size, 0, none⟩ (.int .i64 r.k)).setCell ⟨w.heap.size, 1, none⟩ (.int .i64 r.s)).setCell ⟨w.heap.size, 2, none⟩ (.int .i64 r.z)).setCell ⟨w.heap.size, 3, none⟩ (.int .u64 r.zc)).setCell ⟨w.heap.size, 4, none⟩ (.int .u64 r.ct)).setCell ⟨w.heap.size, 5, none⟩ (.int .i64 r.sm)).setCell ⟨w.heap.size, 6, none⟩ (.slice A3 r.P.length c3)).setCell ⟨w.heap.size, 7, none⟩ (.slice B3 r.Q.length d3)) = w6
          have hW' : set8 w5 (w.heap.size) (.int .i64 r.k) (.int .i64 r.s) (.int .i64 r.z) (.int .u64 r.zc) (.int .u64 r.ct) (.int .i64 r.sm) (.slice A3 r.P.length c3) (.slice B3 r.Q.length d3) = w6 := hW
          rw [hW'] at HT6
          clear hW hW' HT5 HAB
          have HR6 := Lib.hid (show RkRel w w0 a0 b0 w6 from ⟨r, y, A3, B3, A2, B2, c3, d3, c2, d2, HT6.out, ⟨HN3.out, HNr.out.2⟩, ⟨HOk2.out, HOr.out.2⟩, HK2.out⟩)
          have HM6 := Lib.hid (show zAt w6 w.heap.size = r.z ∧ zAt w6 (w.heap.size + 1) = y.z from ⟨by unfold zAt; rw [HT6.out.X.cells.2.2.1]; rfl, by unfold zAt; rw [HT6.out.Y.cells.2.2.1]; rfl⟩)
          go_roundw
          case rel => exact HR6
          case measure =>
            have h1 := HM.out
            have h2 := HM6.out
            rw [h1.1, h1.2, h2.1, h2.2]
            exact HLess.out
        · have dq : decide (x.z < y.z) = false := by simpa using hlt
          obtain ⟨r, hr⟩ : ∃ r, swF y x.z = r := ⟨_, rfl⟩
          have hzz : zr x.z := HOr.out.1.z
          have HOk2 := Lib.hid (show Ok r by rw [← hr]; exact sw_ok HOr.out.2 hzz)
          have HWE := Lib.hid (show widenO y x.z = r ∧ widenE y.z x.z = 0 from by
            have h0 : widenE y.z x.z = 0 := by unfold widenE; rw [if_neg]; have hx := HOr.out.2.z; unfold zr at hzz hx; omega
            exact ⟨by unfold widenO; rw [h0, if_pos rfl, hr], h0⟩)
          have HLess := Lib.hid (show (262144 - max x.z r.z).toNat * 2 + (if x.z = r.z then 0 else 1) < (262144 - max x.z y.z).toNat * 2 + (if x.z = y.z then 0 else 1) from by
            have hl := ak_less HOr.out.1 HOr.out.2 hz (m := x.z) (by omega)
            rw [sw_self HOr.out.1, hr] at hl
            exact hl)
          have HK2 := Lib.hid (show ∀ p q, Alk x r p q → Alk a0 b0 p q from fun p q h => HKr.out p q (.step hz (by
            have hm : max x.z y.z = x.z := by omega
            rw [hm, sw_self HOr.out.1, hr]
            exact h)))
          clear hz hr hzz
          go_wp2_with fail
          clear x0 x1 x2 x3 x4 x5 x6 x7 y0 y1 y2 y3 y4 y5 y6 y7 l0 l1
          have hd := refwiden_any y x.z A2 B2 c2 d2 wo HTr.out.hA' HTr.out.hB' HOr.out.2
          refine hd.mono ?_
          intro e w5 hR
          obtain ⟨A3, B3, c3, d3, rfl, hA, hB, hb, hn⟩ := hR.as HWE.out.1 HWE.out.2
          have HN3 := Lib.hid (hn w0 HTr.out.sz HNr.out.2.1 HNr.out.2.2)
          have HT5 := Lib.hid (HTr.out.below hb)
          have HAB := Lib.hid (And.intro hA hB)
          clear hd hR hA hB hb hn
          obtain ⟨x0, x1, x2, x3, x4, x5, x6, x7⟩ := HT5.out.X.cells
          obtain ⟨y0, y1, y2, y3, y4, y5, y6, y7⟩ := HT5.out.Y.cells
          have l0 := HT5.out.X.lt
          have l1 := HT5.out.Y.lt
          obtain ⟨f0, f1, f2, f3, f4, f5, f6, f7⟩ := HT5.out.Y.frozen
          simp only [hvA]
          go_wp2_with fail
          clear x0 x1 x2 x3 x4 x5 x6 x7 y0 y1 y2 y3 y4 y5 y6 y7 l0 l1 f0 f1 f2 f3 f4 f5 f6 f7
          have HT6 := Lib.hid (HT5.out.setY (c3 := c3) (d3 := d3) HAB.out.1 HAB.out.2 (.inr (HN3.out.1.ne HS0.out.2.1)) (.inr (HN3.out.2.ne HS0.out.2.1)) (.inr (HNr.out.1.1.ne HS0.out.2.1)) (.inr (HNr.out.1.2.ne HS0.out.2.1)))
          generalize hW : ((((((((w5.setCell ⟨w.heap.size + 1, 0, none⟩ (.int .i64 r.k)).setCell ⟨w.heap.size + 1, 1, none⟩ (.int .i64 r.s)).setCell ⟨w.heap.size + 1, 2, none⟩ (.int .i64 r.z)).setCell ⟨w.heap.size + 1, 3, none⟩ (.int .u64 r.zc)).setCell ⟨w.heap.size + 1, 4, none⟩ (.int .u64 r.ct)).setCell ⟨w.heap.size + 1, 5, none⟩ (.int .i64 r.sm)).setCell ⟨w.heap.size + 1, 6, none⟩ (.slice A3 r.P.length c3)).setCell ⟨w.heap.size + 1, 7, none⟩ (.slice B3 r.Q.length d3)) = w6
          have hW' : set8 w5 (w.heap.size + 1) (.int .i64 r.k) (.int .i64 r.s) (.int .i64 r.z) (.int .u64 r.zc) (.int .u64 r.ct) (.int .i64 r.sm) (.slice A3 r.P.length c3) (.slice B3 r.Q.length d3) = w6 := hW
          rw [hW'] at HT6
          clear hW hW' HT5 HAB
          have HR6 := Lib.hid (show RkRel w w0 a0 b0 w6 from ⟨x, r, A1, B1, A3, B3, c1, d1, c3, d3, HT6.out, ⟨HNr.out.1, HN3.out⟩, ⟨HOr.out.1, HOk2.out⟩, HK2.out⟩)
          have HM6 := Lib.hid (show zAt w6 w.heap.size = x.z ∧ zAt w6 (w.heap.size + 1) = r.z from ⟨by unfold zAt; rw [HT6.out.X.cells.2.2.1]; rfl, by unfold zAt; rw [HT6.out.Y.cells.2.2.1]; rfl⟩)
          go_roundw
          case rel => exact HR6
          case measure =>
            have h1 := HM.out
            have h2 := HM6.out
            rw [h1.1, h1.2, h2.1, h2.2]
            exact HLess.out
end Go.Proofs.Ytofaciagkkipbaa

/-! The law MeldDowns. -/
namespace Go.Proofs.Ytofaciagkkipbaa
open Go.RowKit Go.Sort Go.Maps
set_option linter.unusedVariables false

theorem rsame_h (a b : HV) (A B A' B' : Option Addr) (c d c' d' : Nat) (w : World) (hP : Bk w A a.P) (hQ : Bk w B a.Q) (hP' : Bk w A' b.P) (hQ' : Bk w B' b.Q) (h : a = b) :
    Calls Try.prog 14 #[.agg #[.int .i64 a.k, .int .i64 a.s, .int .i64 a.z, .int .u64 a.zc, .int .u64 a.ct, .int .i64 a.sm, .slice A a.P.length c, .slice B a.Q.length d], .agg #[.int .i64 b.k, .int .i64 b.s, .int .i64 b.z, .int .u64 b.zc, .int .u64 b.ct, .int .i64 b.sm, .slice A' b.P.length c', .slice B' b.Q.length d']] w fun e w' => e = .returned (.bool true) ∧ Below w.heap.size w w' := by
  subst h
  refine (rsame_any a.k a.s a.z a.zc a.ct a.sm a.k a.s a.z a.zc a.ct a.sm A B A' B' c d c' d' a.P a.Q a.P a.Q w hP hQ hP' hQ').mono ?_
  rintro e w' ⟨rfl, hb⟩
  exact ⟨by rw [sameF_self], hb⟩
theorem alike_h (a b : HV) (A B A' B' : Option Addr) (c d c' d' : Nat) (w : World) (hP : Bk w A a.P) (hQ : Bk w B a.Q) (hP' : Bk w A' b.P) (hQ' : Bk w B' b.Q) (oa : Ok a) (ob : Ok b) :
    Calls Try.prog 17 #[.agg #[.int .i64 a.k, .int .i64 a.s, .int .i64 a.z, .int .u64 a.zc, .int .u64 a.ct, .int .i64 a.sm, .slice A a.P.length c, .slice B a.Q.length d], .agg #[.int .i64 b.k, .int .i64 b.s, .int .i64 b.z, .int .u64 b.zc, .int .u64 b.ct, .int .i64 b.sm, .slice A' b.P.length c', .slice B' b.Q.length d']] w fun e w' => ∃ x y, Two a b x y ∧ RetT w x y 0 e w' := by
  obtain ⟨k, s, z, zc, ct, sm, P, Q⟩ := a
  obtain ⟨k', s', z', zc', ct', sm', P', Q'⟩ := b
  refine (alike_any downC k s z zc ct sm P Q k' s' z' zc' ct' sm' P' Q' A B A' B' c d c' d' w hP hQ hP' hQ' oa ob _ _ rfl rfl).mono ?_
  rintro e w' ⟨x', y', hk, hr⟩
  exact ⟨x', y', ⟨hk, oa, ob⟩, hr⟩
theorem refalike_two {a b x y : HV} (h : Two a b x y) (A B A' B' : Option Addr) (c d c' d' : Nat) (w : World) (hP : Bk w A a.P) (hQ : Bk w B a.Q) (hP' : Bk w A' b.P) (hQ' : Bk w B' b.Q) :
    Calls Try.prog 18 #[.agg #[.int .i64 a.k, .int .i64 a.s, .int .i64 a.z, .int .u64 a.zc, .int .u64 a.ct, .int .i64 a.sm, .slice A a.P.length c, .slice B a.Q.length d], .agg #[.int .i64 b.k, .int .i64 b.s, .int .i64 b.z, .int .u64 b.zc, .int .u64 b.ct, .int .i64 b.sm, .slice A' b.P.length c', .slice B' b.Q.length d']] w (RetP w x y) := by
  refine (refalike_any a b A B A' B' c d c' d' w hP hQ hP' hQ' h.oa h.ob _ _ rfl rfl).mono ?_
  rintro e w' ⟨x', y', hk, hr⟩
  obtain ⟨rfl, rfl⟩ := h.alk.unique hk
  exact hr
set_option maxHeartbeats 4000000 in
set_option maxRecDepth 100000 in
theorem downs_main (a b : HV) (A B A' B' : Option Addr) (c d c' d' : Nat) (t u : Int) (w : World) (hP : Bk w A a.P) (hQ : Bk w B a.Q) (hP' : Bk w A' b.P) (hQ' : Bk w B' b.Q) (oa : Ok a) (ob : Ok b) (hf : fewB a = true ∧ fewB b = true) :
    Calls Try.prog 3 #[.agg #[.int .i64 a.k, .int .i64 a.s, .int .i64 a.z, .int .u64 a.zc, .int .u64 a.ct, .int .i64 a.sm, .slice A a.P.length c, .slice B a.Q.length d], .agg #[.int .i64 b.k, .int .i64 b.s, .int .i64 b.z, .int .u64 b.zc, .int .u64 b.ct, .int .i64 b.sm, .slice A' b.P.length c', .slice B' b.Q.length d'], .int .i64 t, .int .i64 u] w fun e w' => e = .returned (.bool true) ∧ Below w.heap.size w w' := by
  have HF := Lib.hid hf
  have HO := Lib.hid (And.intro oa ob)
  have za : 0 ≤ a.zc ∧ a.zc ≤ 18446744073709551615 := ⟨oa.zc, oa.toGood.z1⟩
  have zb : 0 ≤ b.zc ∧ b.zc ≤ 18446744073709551615 := ⟨ob.zc, ob.toGood.z1⟩
  clear hf oa ob
  have HKw := Lib.hid (And.intro (And.intro hP hQ) (And.intro hP' hQ'))
  have hb0 := (((Below.refl w.heap.size w).alloc (Nat.le_refl _) (.cells #[.int .i64 a.k, .int .i64 a.s, .int .i64 a.z, .int .u64 a.zc, .int .u64 a.ct, .int .i64 a.sm, .slice A a.P.length c, .slice B a.Q.length d] 25)).alloc (by simp) (.cells #[.int .i64 b.k, .int .i64 b.s, .int .i64 b.z, .int .u64 b.zc, .int .u64 b.ct, .int .i64 b.sm, .slice A' b.P.length c', .slice B' b.Q.length d'] 25)).alloc (by simp; omega) (.cells #[.int .i64 a.k, .int .i64 a.s, .int .i64 a.z, .int .u64 a.zc, .int .u64 a.ct, .int .i64 a.sm, .slice A a.P.length c, .slice B a.Q.length d, .int .i64 b.k, .int .i64 b.s, .int .i64 b.z, .int .u64 b.zc, .int .u64 b.ct, .int .i64 b.sm, .slice A' b.P.length c', .slice B' b.Q.length d'] 25)
  have bx0 := ((Box.new w (.int .i64 a.k) (.int .i64 a.s) (.int .i64 a.z) (.int .u64 a.zc) (.int .u64 a.ct) (.int .i64 a.sm) (.slice A a.P.length c) (.slice B a.Q.length d)).alloc (.cells #[.int .i64 b.k, .int .i64 b.s, .int .i64 b.z, .int .u64 b.zc, .int .u64 b.ct, .int .i64 b.sm, .slice A' b.P.length c', .slice B' b.Q.length d'] 25)).alloc (.cells #[.int .i64 a.k, .int .i64 a.s, .int .i64 a.z, .int .u64 a.zc, .int .u64 a.ct, .int .i64 a.sm, .slice A a.P.length c, .slice B a.Q.length d, .int .i64 b.k, .int .i64 b.s, .int .i64 b.z, .int .u64 b.zc, .int .u64 b.ct, .int .i64 b.sm, .slice A' b.P.length c', .slice B' b.Q.length d'] 25)
  have bx1 := (Box.newAt (w.alloc (.cells #[.int .i64 a.k, .int .i64 a.s, .int .i64 a.z, .int .u64 a.zc, .int .u64 a.ct, .int .i64 a.sm, .slice A a.P.length c, .slice B a.Q.length d] 25)) (w.heap.size + 1) (by simp) (.int .i64 b.k) (.int .i64 b.s) (.int .i64 b.z) (.int .u64 b.zc) (.int .u64 b.ct) (.int .i64 b.sm) (.slice A' b.P.length c') (.slice B' b.Q.length d')).alloc (.cells #[.int .i64 a.k, .int .i64 a.s, .int .i64 a.z, .int .u64 a.zc, .int .u64 a.ct, .int .i64 a.sm, .slice A a.P.length c, .slice B a.Q.length d, .int .i64 b.k, .int .i64 b.s, .int .i64 b.z, .int .u64 b.zc, .int .u64 b.ct, .int .i64 b.sm, .slice A' b.P.length c', .slice B' b.Q.length d'] 25)
  have bx2 := Hl.two (w := ((w.alloc (.cells #[.int .i64 a.k, .int .i64 a.s, .int .i64 a.z, .int .u64 a.zc, .int .u64 a.ct, .int .i64 a.sm, .slice A a.P.length c, .slice B a.Q.length d] 25)).alloc (.cells #[.int .i64 b.k, .int .i64 b.s, .int .i64 b.z, .int .u64 b.zc, .int .u64 b.ct, .int .i64 b.sm, .slice A' b.P.length c', .slice B' b.Q.length d'] 25)).alloc (.cells #[.int .i64 a.k, .int .i64 a.s, .int .i64 a.z, .int .u64 a.zc, .int .u64 a.ct, .int .i64 a.sm, .slice A a.P.length c, .slice B a.Q.length d, .int .i64 b.k, .int .i64 b.s, .int .i64 b.z, .int .u64 b.zc, .int .u64 b.ct, .int .i64 b.sm, .slice A' b.P.length c', .slice B' b.Q.length d'] 25)) (g := w.heap.size + 1 + 1) (by have := heap_alloc_new ((w.alloc (.cells #[.int .i64 a.k, .int .i64 a.s, .int .i64 a.z, .int .u64 a.zc, .int .u64 a.ct, .int .i64 a.sm, .slice A a.P.length c, .slice B a.Q.length d] 25)).alloc (.cells #[.int .i64 b.k, .int .i64 b.s, .int .i64 b.z, .int .u64 b.zc, .int .u64 b.ct, .int .i64 b.sm, .slice A' b.P.length c', .slice B' b.Q.length d'] 25)) (.cells #[.int .i64 a.k, .int .i64 a.s, .int .i64 a.z, .int .u64 a.zc, .int .u64 a.ct, .int .i64 a.sm, .slice A a.P.length c, .slice B a.Q.length d, .int .i64 b.k, .int .i64 b.s, .int .i64 b.z, .int .u64 b.zc, .int .u64 b.ct, .int .i64 b.sm, .slice A' b.P.length c', .slice B' b.Q.length d'] 25); simpa using this) (hP.below hb0) (hQ.below hb0) (hP'.below hb0) (hQ'.below hb0) za zb
  have HX0 := Lib.hid (And.intro bx0 bx1)
  have HK0 := Lib.hid (And.intro (hP.below hb0) (And.intro (hQ.below hb0) (And.intro (hP'.below hb0) (hQ'.below hb0))))
  have HB0 := Lib.hid hb0
  have HL := Lib.hid bx2
  clear hP hQ hP' hQ' za zb hb0 bx0 bx1 bx2
  go_enter Try.func3, Try.ntmps3
  go_wp2_with fail
  generalize ((w.alloc (.cells #[.int .i64 a.k, .int .i64 a.s, .int .i64 a.z, .int .u64 a.zc, .int .u64 a.ct, .int .i64 a.sm, .slice A a.P.length c, .slice B a.Q.length d] 25)).alloc (.cells #[.int .i64 b.k, .int .i64 b.s, .int .i64 b.z, .int .u64 b.zc, .int .u64 b.ct, .int .i64 b.sm, .slice A' b.P.length c', .slice B' b.Q.length d'] 25)).alloc (.cells #[.int .i64 a.k, .int .i64 a.s, .int .i64 a.z, .int .u64 a.zc, .int .u64 a.ct, .int .i64 a.sm, .slice A a.P.length c, .slice B a.Q.length d, .int .i64 b.k, .int .i64 b.s, .int .i64 b.z, .int .u64 b.zc, .int .u64 b.ct, .int .i64 b.sm, .slice A' b.P.length c', .slice B' b.Q.length d'] 25) = w0 at *
  refine (lright_any (some ⟨w.heap.size + 1 + 1, 0, none⟩) 2 2 [a, b] w0 rfl HL.out).mono ?_
  rintro e w1 ⟨rfl, hb⟩
  have hRR : rightF [a, b] = true := by unfold rightF; rw [List.all_cons, List.all_cons, HF.out.1, HF.out.2]; rfl
  rw [hRR]
  clear hRR HL
  have HX1 := Lib.hid (And.intro (HX0.out.1.below hb) (HX0.out.2.below hb))
  have HK1 := Lib.hid (And.intro (HK0.out.1.below hb) (And.intro (HK0.out.2.1.below hb) (And.intro (HK0.out.2.2.1.below hb) (HK0.out.2.2.2.below hb))))
  have HB1 := Lib.hid (HB0.out.trans (hb.mono HB0.out.size))
  clear HB0 HX0 HK0
  clear hb
  obtain ⟨x00, x01, x02, x03, x04, x05, x06, x07⟩ := HX1.out.1.cells
  have l0 := HX1.out.1.lt
  go_wp2_with fail
  obtain ⟨r, hr⟩ : ∃ r, downO a t = r := ⟨_, rfl⟩
  obtain ⟨E, hE⟩ : ∃ E, downE a.s t = E := ⟨_, rfl⟩
  have HRE := Lib.hid (And.intro hr hE)
  clear hr hE
  refine (down_full a t A B c d w1 (HK1.out.1) (HK1.out.2.1) HO.out.1).mono ?_
  intro e w2 hR
  obtain ⟨A1, B1, c1, d1, rfl, hA, hB, hb, _, _⟩ := hR.as HRE.out.1 HRE.out.2
  simp only [hvA]
  clear hR
  have HX2 := Lib.hid (And.intro (HX1.out.1.below hb) (HX1.out.2.below hb))
  have HK2 := Lib.hid (And.intro (HK1.out.1.below hb) (And.intro (HK1.out.2.1.below hb) (And.intro (HK1.out.2.2.1.below hb) (And.intro (HK1.out.2.2.2.below hb) (And.intro (hA) (hB))))))
  have HB2 := Lib.hid (HB1.out.trans (hb.mono HB1.out.size))
  clear x00 x01 x02 x03 x04 x05 x06 x07 l0 HB1 HX1 HK1
  clear hA hB hb
  obtain ⟨x00, x01, x02, x03, x04, x05, x06, x07⟩ := HX2.out.1.cells
  have l0 := HX2.out.1.lt
  go_wp2_with fail
  have HGgx := Lib.hid (And.intro (HX2.out.1.lt) (HX2.out.2.lt))
  have HGgxs := HGgx
  have hw : Below w2.heap.size w2 (w2.alloc (.cells #[.int .i64 r.k, .int .i64 r.s, .int .i64 r.z, .int .u64 r.zc, .int .u64 r.ct, .int .i64 r.sm, .slice A1 r.P.length c1, .slice B1 r.Q.length d1] 25)) := (Below.refl _ _).alloc (Nat.le_refl _) _
  have HX3 := Lib.hid (And.intro (HX2.out.1.below hw) (And.intro (HX2.out.2.below hw) (Box.new w2 (.int .i64 r.k) (.int .i64 r.s) (.int .i64 r.z) (.int .u64 r.zc) (.int .u64 r.ct) (.int .i64 r.sm) (.slice A1 r.P.length c1) (.slice B1 r.Q.length d1))))
  have HK3 := Lib.hid (And.intro (HK2.out.1.below hw) (And.intro (HK2.out.2.1.below hw) (And.intro (HK2.out.2.2.1.below hw) (And.intro (HK2.out.2.2.2.1.below hw) (And.intro (HK2.out.2.2.2.2.1.below hw) (HK2.out.2.2.2.2.2.below hw))))))
  have HB3 := Lib.hid (HB2.out.trans (hw.mono HB2.out.size))
  clear x00 x01 x02 x03 x04 x05 x06 x07 l0 HB2 hw HX2 HK2
  obtain ⟨gx, hgx⟩ : ∃ g, w2.heap.size = g := ⟨_, rfl⟩
  rw [hgx] at HX3 HGgx ⊢
  clear hgx
  generalize w2.alloc (.cells #[.int .i64 r.k, .int .i64 r.s, .int .i64 r.z, .int .u64 r.zc, .int .u64 r.ct, .int .i64 r.sm, .slice A1 r.P.length c1, .slice B1 r.Q.length d1] 25) = w3 at *
  refine (refdown_any a t A B c d w3 (HK3.out.1) (HK3.out.2.1) HO.out.1).mono ?_
  intro e w4 hR
  obtain ⟨A2, B2, c2, d2, rfl, hA, hB, hb, _, _⟩ := hR.as HRE.out.1 HRE.out.2
  simp only [hvA]
  clear hR
  have HX4 := Lib.hid (And.intro (HX3.out.1.below hb) (And.intro (HX3.out.2.1.below hb) (HX3.out.2.2.below hb)))
  have HK4 := Lib.hid (And.intro (HK3.out.1.below hb) (And.intro (HK3.out.2.1.below hb) (And.intro (HK3.out.2.2.1.below hb) (And.intro (HK3.out.2.2.2.1.below hb) (And.intro (HK3.out.2.2.2.2.1.below hb) (And.intro (HK3.out.2.2.2.2.2.below hb) (And.intro (hA) (hB))))))))
  have HB4 := Lib.hid (HB3.out.trans (hb.mono HB3.out.size))
  clear HB3 HX3 HK3
  clear hA hB hb
  obtain ⟨x20, x21, x22, x23, x24, x25, x26, x27⟩ := HX4.out.2.2.cells
  have l2 := HX4.out.2.2.lt
  have hee : (E != E) = false := by simp
  go_wp2_with fail
  have HGgy := Lib.hid (And.intro (HX4.out.1.lt) (And.intro (HX4.out.2.1.lt) (HX4.out.2.2.lt)))
  have hw : Below w4.heap.size w4 (w4.alloc (.cells #[.int .i64 r.k, .int .i64 r.s, .int .i64 r.z, .int .u64 r.zc, .int .u64 r.ct, .int .i64 r.sm, .slice A2 r.P.length c2, .slice B2 r.Q.length d2] 25)) := (Below.refl _ _).alloc (Nat.le_refl _) _
  have HX5 := Lib.hid (And.intro (HX4.out.1.below hw) (And.intro (HX4.out.2.1.below hw) (And.intro (HX4.out.2.2.below hw) (Box.new w4 (.int .i64 r.k) (.int .i64 r.s) (.int .i64 r.z) (.int .u64 r.zc) (.int .u64 r.ct) (.int .i64 r.sm) (.slice A2 r.P.length c2) (.slice B2 r.Q.length d2)))))
  have HK5 := Lib.hid (And.intro (HK4.out.1.below hw) (And.intro (HK4.out.2.1.below hw) (And.intro (HK4.out.2.2.1.below hw) (And.intro (HK4.out.2.2.2.1.below hw) (And.intro (HK4.out.2.2.2.2.1.below hw) (And.intro (HK4.out.2.2.2.2.2.1.below hw) (And.intro (HK4.out.2.2.2.2.2.2.1.below hw) (HK4.out.2.2.2.2.2.2.2.below hw))))))))
  have HB5 := Lib.hid (HB4.out.trans (hw.mono HB4.out.size))
  clear x20 x21 x22 x23 x24 x25 x26 x27 l2 HB4 hw HX4 HK4
  obtain ⟨gy, hgy⟩ : ∃ g, w4.heap.size = g := ⟨_, rfl⟩
  rw [hgy] at HX5 HGgy ⊢
  clear hgy
  generalize w4.alloc (.cells #[.int .i64 r.k, .int .i64 r.s, .int .i64 r.z, .int .u64 r.zc, .int .u64 r.ct, .int .i64 r.sm, .slice A2 r.P.length c2, .slice B2 r.Q.length d2] 25) = w5 at *
  refine (rsame_h r r A1 B1 A2 B2 c1 d1 c2 d2 w5 (HK5.out.2.2.2.2.1) (HK5.out.2.2.2.2.2.1) (HK5.out.2.2.2.2.2.2.1) (HK5.out.2.2.2.2.2.2.2) rfl).mono ?_
  rintro e w6 ⟨rfl, hb⟩
  have HX6 := Lib.hid (And.intro (HX5.out.1.below hb) (And.intro (HX5.out.2.1.below hb) (And.intro (HX5.out.2.2.1.below hb) (HX5.out.2.2.2.below hb))))
  have HK6 := Lib.hid (And.intro (HK5.out.1.below hb) (And.intro (HK5.out.2.1.below hb) (And.intro (HK5.out.2.2.1.below hb) (And.intro (HK5.out.2.2.2.1.below hb) (And.intro (HK5.out.2.2.2.2.1.below hb) (And.intro (HK5.out.2.2.2.2.2.1.below hb) (And.intro (HK5.out.2.2.2.2.2.2.1.below hb) (HK5.out.2.2.2.2.2.2.2.below hb))))))))
  have HB6 := Lib.hid (HB5.out.trans (hb.mono HB5.out.size))
  clear HB5 HX5 HK5
  clear hb hee
  obtain ⟨x00, x01, x02, x03, x04, x05, x06, x07⟩ := HX6.out.1.cells
  have l0 := HX6.out.1.lt
  go_wp2_with fail
  obtain ⟨q, hq⟩ : ∃ r, widenO a u = r := ⟨_, rfl⟩
  obtain ⟨E2, hE⟩ : ∃ E, widenE a.z u = E := ⟨_, rfl⟩
  have HQE := Lib.hid (And.intro hq hE)
  clear hq hE
  refine (widen_full a u A B c d w6 (HK6.out.1) (HK6.out.2.1) HO.out.1).mono ?_
  intro e w7 hR
  obtain ⟨A3, B3, c3, d3, rfl, hA, hB, hb, nA, nB⟩ := hR.as HQE.out.1 HQE.out.2
  simp only [hvA]
  clear hR
  have HN3 := Lib.hid (And.intro (nA.ne HX6.out.2.2.1.lt) (nB.ne HX6.out.2.2.1.lt))
  have HM3 := Lib.hid (And.intro (nA.ne HX6.out.2.2.2.lt) (nB.ne HX6.out.2.2.2.lt))
  clear nA nB
  have HX7 := Lib.hid (And.intro (HX6.out.1.below hb) (And.intro (HX6.out.2.1.below hb) (And.intro (HX6.out.2.2.1.below hb) (HX6.out.2.2.2.below hb))))
  have HK7 := Lib.hid (And.intro (HK6.out.1.below hb) (And.intro (HK6.out.2.1.below hb) (And.intro (HK6.out.2.2.1.below hb) (And.intro (HK6.out.2.2.2.1.below hb) (And.intro (HK6.out.2.2.2.2.1.below hb) (And.intro (HK6.out.2.2.2.2.2.1.below hb) (And.intro (HK6.out.2.2.2.2.2.2.1.below hb) (And.intro (HK6.out.2.2.2.2.2.2.2.below hb) (And.intro (hA) (hB))))))))))
  have HB7 := Lib.hid (HB6.out.trans (hb.mono HB6.out.size))
  clear x00 x01 x02 x03 x04 x05 x06 x07 l0 HB6 HX6 HK6
  clear hA hB hb
  obtain ⟨x00, x01, x02, x03, x04, x05, x06, x07⟩ := HX7.out.1.cells
  have l0 := HX7.out.1.lt
  obtain ⟨x20, x21, x22, x23, x24, x25, x26, x27⟩ := HX7.out.2.2.1.cells
  have l2 := HX7.out.2.2.1.lt
  obtain ⟨f20, f21, f22, f23, f24, f25, f26, f27⟩ := HX7.out.2.2.1.frozen
  have ne0 : ¬ w.heap.size = gx := by have := HGgx.out; omega
  have en0 : ¬ gx = w.heap.size := by have := HGgx.out; omega
  go_wp2_with fail
  clear x00 x01 x02 x03 x04 x05 x06 x07 l0 x20 x21 x22 x23 x24 x25 x26 x27 l2 f20 f21 f22 f23 f24 f25 f26 f27 ne0 en0
  have HX8 := Lib.hid (And.intro (Box.off8 (g' := gx) HX7.out.1 (by have := HGgx.out; omega) (.int .i64 q.k) (.int .i64 q.s) (.int .i64 q.z) (.int .u64 q.zc) (.int .u64 q.ct) (.int .i64 q.sm) (.slice A3 q.P.length c3) (.slice B3 q.Q.length d3)) (And.intro (Box.off8 (g' := gx) HX7.out.2.1 (by have := HGgx.out; omega) (.int .i64 q.k) (.int .i64 q.s) (.int .i64 q.z) (.int .u64 q.zc) (.int .u64 q.ct) (.int .i64 q.sm) (.slice A3 q.P.length c3) (.slice B3 q.Q.length d3)) (And.intro (HX7.out.2.2.1.put8 (.int .i64 q.k) (.int .i64 q.s) (.int .i64 q.z) (.int .u64 q.zc) (.int .u64 q.ct) (.int .i64 q.sm) (.slice A3 q.P.length c3) (.slice B3 q.Q.length d3)) (Box.off8 (g' := gx) HX7.out.2.2.2 (by have := HGgy.out; have := HGgx.out; omega) (.int .i64 q.k) (.int .i64 q.s) (.int .i64 q.z) (.int .u64 q.zc) (.int .u64 q.ct) (.int .i64 q.sm) (.slice A3 q.P.length c3) (.slice B3 q.Q.length d3)))))
  have HK8 := Lib.hid (And.intro (Bk.set8n (g := gx) HK7.out.1 (HKw.out.1.1.ne_lt (by have := HGgx.out; omega)) (.int .i64 q.k) (.int .i64 q.s) (.int .i64 q.z) (.int .u64 q.zc) (.int .u64 q.ct) (.int .i64 q.sm) (.slice A3 q.P.length c3) (.slice B3 q.Q.length d3)) (And.intro (Bk.set8n (g := gx) HK7.out.2.1 (HKw.out.1.2.ne_lt (by have := HGgx.out; omega)) (.int .i64 q.k) (.int .i64 q.s) (.int .i64 q.z) (.int .u64 q.zc) (.int .u64 q.ct) (.int .i64 q.sm) (.slice A3 q.P.length c3) (.slice B3 q.Q.length d3)) (And.intro (Bk.set8n (g := gx) HK7.out.2.2.1 (HKw.out.2.1.ne_lt (by have := HGgx.out; omega)) (.int .i64 q.k) (.int .i64 q.s) (.int .i64 q.z) (.int .u64 q.zc) (.int .u64 q.ct) (.int .i64 q.sm) (.slice A3 q.P.length c3) (.slice B3 q.Q.length d3)) (And.intro (Bk.set8n (g := gx) HK7.out.2.2.2.1 (HKw.out.2.2.ne_lt (by have := HGgx.out; omega)) (.int .i64 q.k) (.int .i64 q.s) (.int .i64 q.z) (.int .u64 q.zc) (.int .u64 q.ct) (.int .i64 q.sm) (.slice A3 q.P.length c3) (.slice B3 q.Q.length d3)) (And.intro (Bk.set8n (g := gx) HK7.out.2.2.2.2.2.2.2.2.1 (.inr HN3.out.1) (.int .i64 q.k) (.int .i64 q.s) (.int .i64 q.z) (.int .u64 q.zc) (.int .u64 q.ct) (.int .i64 q.sm) (.slice A3 q.P.length c3) (.slice B3 q.Q.length d3)) (Bk.set8n (g := gx) HK7.out.2.2.2.2.2.2.2.2.2 (.inr HN3.out.2) (.int .i64 q.k) (.int .i64 q.s) (.int .i64 q.z) (.int .u64 q.zc) (.int .u64 q.ct) (.int .i64 q.sm) (.slice A3 q.P.length c3) (.slice B3 q.Q.length d3)))))))
  have HB8 := Lib.hid (below_set8 (g := gx) HB7.out (by have := HGgx.out; omega) (.int .i64 q.k) (.int .i64 q.s) (.int .i64 q.z) (.int .u64 q.zc) (.int .u64 q.ct) (.int .i64 q.sm) (.slice A3 q.P.length c3) (.slice B3 q.Q.length d3))
  clear HX7 HK7 HB7
  generalize hW : ((((((((w7.setCell ⟨gx, 0, none⟩ (.int .i64 q.k)).setCell ⟨gx, 1, none⟩ (.int .i64 q.s)).setCell ⟨gx, 2, none⟩ (.int .i64 q.z)).setCell ⟨gx, 3, none⟩ (.int .u64 q.zc)).setCell ⟨gx, 4, none⟩ (.int .u64 q.ct)).setCell ⟨gx, 5, none⟩ (.int .i64 q.sm)).setCell ⟨gx, 6, none⟩ (.slice A3 q.P.length c3)).setCell ⟨gx, 7, none⟩ (.slice B3 q.Q.length d3)) = w8
  have hW' : set8 w7 (gx) (.int .i64 q.k) (.int .i64 q.s) (.int .i64 q.z) (.int .u64 q.zc) (.int .u64 q.ct) (.int .i64 q.sm) (.slice A3 q.P.length c3) (.slice B3 q.Q.length d3) = w8 := hW
  rw [hW'] at HX8 HB8 HK8
  clear hW hW'
  refine (refwiden_w a u A B c d w8 (HK8.out.1) (HK8.out.2.1) HO.out.1).mono ?_
  intro e w9 hR
  obtain ⟨A4, B4, c4, d4, rfl, hA, hB, hb, nA, nB⟩ := hR.ne (g := gy) HX8.out.2.2.2.lt (HK8.out.1) (HK8.out.2.1) (HKw.out.1.1.ne_lt (by have := HGgy.out; omega)) (HKw.out.1.2.ne_lt (by have := HGgy.out; omega)) HQE.out.1 HQE.out.2
  simp only [hvA]
  have HN4 := Lib.hid (And.intro nA nB)
  clear hR nA nB
  have HX9 := Lib.hid (And.intro (HX8.out.1.below hb) (And.intro (HX8.out.2.1.below hb) (And.intro (HX8.out.2.2.1.below hb) (HX8.out.2.2.2.below hb))))
  have HK9 := Lib.hid (And.intro (HK8.out.1.below hb) (And.intro (HK8.out.2.1.below hb) (And.intro (HK8.out.2.2.1.below hb) (And.intro (HK8.out.2.2.2.1.below hb) (And.intro (HK8.out.2.2.2.2.1.below hb) (And.intro (HK8.out.2.2.2.2.2.below hb) (And.intro (hA) (hB))))))))
  have HB9 := Lib.hid (HB8.out.trans (hb.mono HB8.out.size))
  clear HB8 HX8 HK8
  clear hA hB hb
  obtain ⟨x20, x21, x22, x23, x24, x25, x26, x27⟩ := HX9.out.2.2.1.cells
  have l2 := HX9.out.2.2.1.lt
  obtain ⟨x30, x31, x32, x33, x34, x35, x36, x37⟩ := HX9.out.2.2.2.cells
  have l3 := HX9.out.2.2.2.lt
  obtain ⟨f30, f31, f32, f33, f34, f35, f36, f37⟩ := HX9.out.2.2.2.frozen
  have ne2 : ¬ gx = gy := by have := HGgx.out; have := HGgy.out; omega
  have en2 : ¬ gy = gx := by have := HGgx.out; have := HGgy.out; omega
  have hee : (E2 != E2) = false := by simp
  go_wp2_with fail
  clear x20 x21 x22 x23 x24 x25 x26 x27 l2 x30 x31 x32 x33 x34 x35 x36 x37 l3 f30 f31 f32 f33 f34 f35 f36 f37 ne2 en2
  have HX10 := Lib.hid (And.intro (Box.off8 (g' := gy) HX9.out.1 (by have := HGgy.out; omega) (.int .i64 q.k) (.int .i64 q.s) (.int .i64 q.z) (.int .u64 q.zc) (.int .u64 q.ct) (.int .i64 q.sm) (.slice A4 q.P.length c4) (.slice B4 q.Q.length d4)) (And.intro (Box.off8 (g' := gy) HX9.out.2.1 (by have := HGgy.out; omega) (.int .i64 q.k) (.int .i64 q.s) (.int .i64 q.z) (.int .u64 q.zc) (.int .u64 q.ct) (.int .i64 q.sm) (.slice A4 q.P.length c4) (.slice B4 q.Q.length d4)) (And.intro (Box.off8 (g' := gy) HX9.out.2.2.1 (by have := HGgx.out; have := HGgy.out; omega) (.int .i64 q.k) (.int .i64 q.s) (.int .i64 q.z) (.int .u64 q.zc) (.int .u64 q.ct) (.int .i64 q.sm) (.slice A4 q.P.length c4) (.slice B4 q.Q.length d4)) (HX9.out.2.2.2.put8 (.int .i64 q.k) (.int .i64 q.s) (.int .i64 q.z) (.int .u64 q.zc) (.int .u64 q.ct) (.int .i64 q.sm) (.slice A4 q.P.length c4) (.slice B4 q.Q.length d4)))))
  have HK10 := Lib.hid (And.intro (Bk.set8n (g := gy) HK9.out.1 (HKw.out.1.1.ne_lt (by have := HGgy.out; omega)) (.int .i64 q.k) (.int .i64 q.s) (.int .i64 q.z) (.int .u64 q.zc) (.int .u64 q.ct) (.int .i64 q.sm) (.slice A4 q.P.length c4) (.slice B4 q.Q.length d4)) (And.intro (Bk.set8n (g := gy) HK9.out.2.1 (HKw.out.1.2.ne_lt (by have := HGgy.out; omega)) (.int .i64 q.k) (.int .i64 q.s) (.int .i64 q.z) (.int .u64 q.zc) (.int .u64 q.ct) (.int .i64 q.sm) (.slice A4 q.P.length c4) (.slice B4 q.Q.length d4)) (And.intro (Bk.set8n (g := gy) HK9.out.2.2.1 (HKw.out.2.1.ne_lt (by have := HGgy.out; omega)) (.int .i64 q.k) (.int .i64 q.s) (.int .i64 q.z) (.int .u64 q.zc) (.int .u64 q.ct) (.int .i64 q.sm) (.slice A4 q.P.length c4) (.slice B4 q.Q.length d4)) (And.intro (Bk.set8n (g := gy) HK9.out.2.2.2.1 (HKw.out.2.2.ne_lt (by have := HGgy.out; omega)) (.int .i64 q.k) (.int .i64 q.s) (.int .i64 q.z) (.int .u64 q.zc) (.int .u64 q.ct) (.int .i64 q.sm) (.slice A4 q.P.length c4) (.slice B4 q.Q.length d4)) (And.intro (Bk.set8n (g := gy) HK9.out.2.2.2.2.1 (.inr HM3.out.1) (.int .i64 q.k) (.int .i64 q.s) (.int .i64 q.z) (.int .u64 q.zc) (.int .u64 q.ct) (.int .i64 q.sm) (.slice A4 q.P.length c4) (.slice B4 q.Q.length d4)) (And.intro (Bk.set8n (g := gy) HK9.out.2.2.2.2.2.1 (.inr HM3.out.2) (.int .i64 q.k) (.int .i64 q.s) (.int .i64 q.z) (.int .u64 q.zc) (.int .u64 q.ct) (.int .i64 q.sm) (.slice A4 q.P.length c4) (.slice B4 q.Q.length d4)) (And.intro (Bk.set8n (g := gy) HK9.out.2.2.2.2.2.2.1 (HN4.out.1) (.int .i64 q.k) (.int .i64 q.s) (.int .i64 q.z) (.int .u64 q.zc) (.int .u64 q.ct) (.int .i64 q.sm) (.slice A4 q.P.length c4) (.slice B4 q.Q.length d4)) (Bk.set8n (g := gy) HK9.out.2.2.2.2.2.2.2 (HN4.out.2) (.int .i64 q.k) (.int .i64 q.s) (.int .i64 q.z) (.int .u64 q.zc) (.int .u64 q.ct) (.int .i64 q.sm) (.slice A4 q.P.length c4) (.slice B4 q.Q.length d4)))))))))
  have HB10 := Lib.hid (below_set8 (g := gy) HB9.out (by have := HGgy.out; omega) (.int .i64 q.k) (.int .i64 q.s) (.int .i64 q.z) (.int .u64 q.zc) (.int .u64 q.ct) (.int .i64 q.sm) (.slice A4 q.P.length c4) (.slice B4 q.Q.length d4))
  clear HX9 HK9 HB9
  generalize hW : ((((((((w9.setCell ⟨gy, 0, none⟩ (.int .i64 q.k)).setCell ⟨gy, 1, none⟩ (.int .i64 q.s)).setCell ⟨gy, 2, none⟩ (.int .i64 q.z)).setCell ⟨gy, 3, none⟩ (.int .u64 q.zc)).setCell ⟨gy, 4, none⟩ (.int .u64 q.ct)).setCell ⟨gy, 5, none⟩ (.int .i64 q.sm)).setCell ⟨gy, 6, none⟩ (.slice A4 q.P.length c4)).setCell ⟨gy, 7, none⟩ (.slice B4 q.Q.length d4)) = w10
  have hW' : set8 w9 (gy) (.int .i64 q.k) (.int .i64 q.s) (.int .i64 q.z) (.int .u64 q.zc) (.int .u64 q.ct) (.int .i64 q.sm) (.slice A4 q.P.length c4) (.slice B4 q.Q.length d4) = w10 := hW
  rw [hW'] at HX10 HB10 HK10
  clear hW hW'
  refine (rsame_h q q A3 B3 A4 B4 c3 d3 c4 d4 w10 (HK10.out.2.2.2.2.1) (HK10.out.2.2.2.2.2.1) (HK10.out.2.2.2.2.2.2.1) (HK10.out.2.2.2.2.2.2.2) rfl).mono ?_
  rintro e w11 ⟨rfl, hb⟩
  have HX11 := Lib.hid (And.intro (HX10.out.1.below hb) (And.intro (HX10.out.2.1.below hb) (And.intro (HX10.out.2.2.1.below hb) (HX10.out.2.2.2.below hb))))
  have HK11 := Lib.hid (And.intro (HK10.out.1.below hb) (And.intro (HK10.out.2.1.below hb) (And.intro (HK10.out.2.2.1.below hb) (And.intro (HK10.out.2.2.2.1.below hb) (And.intro (HK10.out.2.2.2.2.1.below hb) (And.intro (HK10.out.2.2.2.2.2.1.below hb) (And.intro (HK10.out.2.2.2.2.2.2.1.below hb) (HK10.out.2.2.2.2.2.2.2.below hb))))))))
  have HB11 := Lib.hid (HB10.out.trans (hb.mono HB10.out.size))
  clear HB10 HX10 HK10
  clear hb hee
  obtain ⟨x00, x01, x02, x03, x04, x05, x06, x07⟩ := HX11.out.1.cells
  have l0 := HX11.out.1.lt
  obtain ⟨x10, x11, x12, x13, x14, x15, x16, x17⟩ := HX11.out.2.1.cells
  have l1 := HX11.out.2.1.lt
  go_wp2_with fail
  refine (alike_h a b A B A' B' c d c' d' w11 (HK11.out.1) (HK11.out.2.1) (HK11.out.2.2.1) (HK11.out.2.2.2.1) HO.out.1 HO.out.2).mono ?_
  rintro e w12 ⟨x, y, htwo, A5, B5, A6, B6, c5, d5, c6, d6, rfl, ⟨hA5, hB5, hA6, hB6⟩, hb, _⟩
  have HT := Lib.hid htwo
  simp only [hvA]
  clear htwo
  have HX12 := Lib.hid (And.intro (HX11.out.1.below hb) (And.intro (HX11.out.2.1.below hb) (And.intro (HX11.out.2.2.1.below hb) (HX11.out.2.2.2.below hb))))
  have HK12 := Lib.hid (And.intro (HK11.out.1.below hb) (And.intro (HK11.out.2.1.below hb) (And.intro (HK11.out.2.2.1.below hb) (And.intro (HK11.out.2.2.2.1.below hb) (And.intro (HK11.out.2.2.2.2.1.below hb) (And.intro (HK11.out.2.2.2.2.2.1.below hb) (And.intro (HK11.out.2.2.2.2.2.2.1.below hb) (And.intro (HK11.out.2.2.2.2.2.2.2.below hb) (And.intro (hA5) (And.intro (hB5) (And.intro (hA6) (hB6))))))))))))
  have HB12 := Lib.hid (HB11.out.trans (hb.mono HB11.out.size))
  clear x00 x01 x02 x03 x04 x05 x06 x07 l0 x10 x11 x12 x13 x14 x15 x16 x17 l1 HB11 HX11 HK11
  clear hA5 hB5 hA6 hB6 hb
  obtain ⟨x00, x01, x02, x03, x04, x05, x06, x07⟩ := HX12.out.1.cells
  have l0 := HX12.out.1.lt
  obtain ⟨x10, x11, x12, x13, x14, x15, x16, x17⟩ := HX12.out.2.1.cells
  have l1 := HX12.out.2.1.lt
  go_wp2_with fail
  have hw : Below w12.heap.size w12 ((w12.alloc (.cells #[.int .i64 x.k, .int .i64 x.s, .int .i64 x.z, .int .u64 x.zc, .int .u64 x.ct, .int .i64 x.sm, .slice A5 x.P.length c5, .slice B5 x.Q.length d5] 25)).alloc (.cells #[.int .i64 y.k, .int .i64 y.s, .int .i64 y.z, .int .u64 y.zc, .int .u64 y.ct, .int .i64 y.sm, .slice A6 y.P.length c6, .slice B6 y.Q.length d6] 25)) := ((Below.refl _ _).alloc (Nat.le_refl _) _).alloc (by simp) _
  have HX13 := Lib.hid (And.intro (HX12.out.1.below hw) (And.intro (HX12.out.2.1.below hw) (And.intro (HX12.out.2.2.1.below hw) (And.intro (HX12.out.2.2.2.below hw) (And.intro ((Box.new w12 (.int .i64 x.k) (.int .i64 x.s) (.int .i64 x.z) (.int .u64 x.zc) (.int .u64 x.ct) (.int .i64 x.sm) (.slice A5 x.P.length c5) (.slice B5 x.Q.length d5)).alloc (.cells #[.int .i64 y.k, .int .i64 y.s, .int .i64 y.z, .int .u64 y.zc, .int .u64 y.ct, .int .i64 y.sm, .slice A6 y.P.length c6, .slice B6 y.Q.length d6] 25)) (Box.newAt (w12.alloc (.cells #[.int .i64 x.k, .int .i64 x.s, .int .i64 x.z, .int .u64 x.zc, .int .u64 x.ct, .int .i64 x.sm, .slice A5 x.P.length c5, .slice B5 x.Q.length d5] 25)) (w12.heap.size + 1) (by simp) (.int .i64 y.k) (.int .i64 y.s) (.int .i64 y.z) (.int .u64 y.zc) (.int .u64 y.ct) (.int .i64 y.sm) (.slice A6 y.P.length c6) (.slice B6 y.Q.length d6)))))))
  have HK13 := Lib.hid (And.intro (HK12.out.1.below hw) (And.intro (HK12.out.2.1.below hw) (And.intro (HK12.out.2.2.1.below hw) (And.intro (HK12.out.2.2.2.1.below hw) (And.intro (HK12.out.2.2.2.2.1.below hw) (And.intro (HK12.out.2.2.2.2.2.1.below hw) (And.intro (HK12.out.2.2.2.2.2.2.1.below hw) (And.intro (HK12.out.2.2.2.2.2.2.2.1.below hw) (And.intro (HK12.out.2.2.2.2.2.2.2.2.1.below hw) (And.intro (HK12.out.2.2.2.2.2.2.2.2.2.1.below hw) (And.intro (HK12.out.2.2.2.2.2.2.2.2.2.2.1.below hw) (HK12.out.2.2.2.2.2.2.2.2.2.2.2.below hw))))))))))))
  have HB13 := Lib.hid (HB12.out.trans (hw.mono HB12.out.size))
  clear x00 x01 x02 x03 x04 x05 x06 x07 l0 x10 x11 x12 x13 x14 x15 x16 x17 l1 HB12 hw HX12 HK12
  obtain ⟨gp, hgp⟩ : ∃ g, w12.heap.size = g := ⟨_, rfl⟩
  rw [hgp] at HX13 ⊢
  clear hgp
  generalize (w12.alloc (.cells #[.int .i64 x.k, .int .i64 x.s, .int .i64 x.z, .int .u64 x.zc, .int .u64 x.ct, .int .i64 x.sm, .slice A5 x.P.length c5, .slice B5 x.Q.length d5] 25)).alloc (.cells #[.int .i64 y.k, .int .i64 y.s, .int .i64 y.z, .int .u64 y.zc, .int .u64 y.ct, .int .i64 y.sm, .slice A6 y.P.length c6, .slice B6 y.Q.length d6] 25) = w13 at *
  refine (refalike_two HT.out A B A' B' c d c' d' w13 (HK13.out.1) (HK13.out.2.1) (HK13.out.2.2.1) (HK13.out.2.2.2.1)).mono ?_
  rintro e w14 ⟨A7, B7, A8, B8, c7, d7, c8, d8, rfl, ⟨hA5, hB5, hA6, hB6⟩, hb, _⟩
  simp only [hvA]
  have HX14 := Lib.hid (And.intro (HX13.out.1.below hb) (And.intro (HX13.out.2.1.below hb) (And.intro (HX13.out.2.2.1.below hb) (And.intro (HX13.out.2.2.2.1.below hb) (And.intro (HX13.out.2.2.2.2.1.below hb) (HX13.out.2.2.2.2.2.below hb))))))
  have HK14 := Lib.hid (And.intro (HK13.out.1.below hb) (And.intro (HK13.out.2.1.below hb) (And.intro (HK13.out.2.2.1.below hb) (And.intro (HK13.out.2.2.2.1.below hb) (And.intro (HK13.out.2.2.2.2.1.below hb) (And.intro (HK13.out.2.2.2.2.2.1.below hb) (And.intro (HK13.out.2.2.2.2.2.2.1.below hb) (And.intro (HK13.out.2.2.2.2.2.2.2.1.below hb) (And.intro (HK13.out.2.2.2.2.2.2.2.2.1.below hb) (And.intro (HK13.out.2.2.2.2.2.2.2.2.2.1.below hb) (And.intro (HK13.out.2.2.2.2.2.2.2.2.2.2.1.below hb) (And.intro (HK13.out.2.2.2.2.2.2.2.2.2.2.2.below hb) (And.intro (hA5) (And.intro (hB5) (And.intro (hA6) (hB6))))))))))))))))
  have HB14 := Lib.hid (HB13.out.trans (hb.mono HB13.out.size))
  clear HB13 HX13 HK13
  clear hA5 hB5 hA6 hB6 hb
  go_wp2_with fail
  have hw : Below w14.heap.size w14 ((w14.alloc (.cells #[.int .i64 x.k, .int .i64 x.s, .int .i64 x.z, .int .u64 x.zc, .int .u64 x.ct, .int .i64 x.sm, .slice A7 x.P.length c7, .slice B7 x.Q.length d7] 25)).alloc (.cells #[.int .i64 y.k, .int .i64 y.s, .int .i64 y.z, .int .u64 y.zc, .int .u64 y.ct, .int .i64 y.sm, .slice A8 y.P.length c8, .slice B8 y.Q.length d8] 25)) := ((Below.refl _ _).alloc (Nat.le_refl _) _).alloc (by simp) _
  have HX15 := Lib.hid (And.intro (HX14.out.1.below hw) (And.intro (HX14.out.2.1.below hw) (And.intro (HX14.out.2.2.1.below hw) (And.intro (HX14.out.2.2.2.1.below hw) (And.intro (HX14.out.2.2.2.2.1.below hw) (And.intro (HX14.out.2.2.2.2.2.below hw) (And.intro ((Box.new w14 (.int .i64 x.k) (.int .i64 x.s) (.int .i64 x.z) (.int .u64 x.zc) (.int .u64 x.ct) (.int .i64 x.sm) (.slice A7 x.P.length c7) (.slice B7 x.Q.length d7)).alloc (.cells #[.int .i64 y.k, .int .i64 y.s, .int .i64 y.z, .int .u64 y.zc, .int .u64 y.ct, .int .i64 y.sm, .slice A8 y.P.length c8, .slice B8 y.Q.length d8] 25)) (Box.newAt (w14.alloc (.cells #[.int .i64 x.k, .int .i64 x.s, .int .i64 x.z, .int .u64 x.zc, .int .u64 x.ct, .int .i64 x.sm, .slice A7 x.P.length c7, .slice B7 x.Q.length d7] 25)) (w14.heap.size + 1) (by simp) (.int .i64 y.k) (.int .i64 y.s) (.int .i64 y.z) (.int .u64 y.zc) (.int .u64 y.ct) (.int .i64 y.sm) (.slice A8 y.P.length c8) (.slice B8 y.Q.length d8)))))))))
  have HK15 := Lib.hid (And.intro (HK14.out.1.below hw) (And.intro (HK14.out.2.1.below hw) (And.intro (HK14.out.2.2.1.below hw) (And.intro (HK14.out.2.2.2.1.below hw) (And.intro (HK14.out.2.2.2.2.1.below hw) (And.intro (HK14.out.2.2.2.2.2.1.below hw) (And.intro (HK14.out.2.2.2.2.2.2.1.below hw) (And.intro (HK14.out.2.2.2.2.2.2.2.1.below hw) (And.intro (HK14.out.2.2.2.2.2.2.2.2.1.below hw) (And.intro (HK14.out.2.2.2.2.2.2.2.2.2.1.below hw) (And.intro (HK14.out.2.2.2.2.2.2.2.2.2.2.1.below hw) (And.intro (HK14.out.2.2.2.2.2.2.2.2.2.2.2.1.below hw) (And.intro (HK14.out.2.2.2.2.2.2.2.2.2.2.2.2.1.below hw) (And.intro (HK14.out.2.2.2.2.2.2.2.2.2.2.2.2.2.1.below hw) (And.intro (HK14.out.2.2.2.2.2.2.2.2.2.2.2.2.2.2.1.below hw) (HK14.out.2.2.2.2.2.2.2.2.2.2.2.2.2.2.2.below hw))))))))))))))))
  have HB15 := Lib.hid (HB14.out.trans (hw.mono HB14.out.size))
  clear HB14 hw HX14 HK14
  obtain ⟨gu, hgu⟩ : ∃ g, w14.heap.size = g := ⟨_, rfl⟩
  rw [hgu] at HX15 ⊢
  clear hgu
  generalize (w14.alloc (.cells #[.int .i64 x.k, .int .i64 x.s, .int .i64 x.z, .int .u64 x.zc, .int .u64 x.ct, .int .i64 x.sm, .slice A7 x.P.length c7, .slice B7 x.Q.length d7] 25)).alloc (.cells #[.int .i64 y.k, .int .i64 y.s, .int .i64 y.z, .int .u64 y.zc, .int .u64 y.ct, .int .i64 y.sm, .slice A8 y.P.length c8, .slice B8 y.Q.length d8] 25) = w15 at *
  refine (awake07 w15).mono ?_
  rintro e w16 ⟨rfl, hb⟩
  have HX16 := Lib.hid (And.intro (HX15.out.1.below hb) (And.intro (HX15.out.2.1.below hb) (And.intro (HX15.out.2.2.1.below hb) (And.intro (HX15.out.2.2.2.1.below hb) (And.intro (HX15.out.2.2.2.2.1.below hb) (And.intro (HX15.out.2.2.2.2.2.1.below hb) (And.intro (HX15.out.2.2.2.2.2.2.1.below hb) (HX15.out.2.2.2.2.2.2.2.below hb))))))))
  have HK16 := Lib.hid (And.intro (HK15.out.1.below hb) (And.intro (HK15.out.2.1.below hb) (And.intro (HK15.out.2.2.1.below hb) (And.intro (HK15.out.2.2.2.1.below hb) (And.intro (HK15.out.2.2.2.2.1.below hb) (And.intro (HK15.out.2.2.2.2.2.1.below hb) (And.intro (HK15.out.2.2.2.2.2.2.1.below hb) (And.intro (HK15.out.2.2.2.2.2.2.2.1.below hb) (And.intro (HK15.out.2.2.2.2.2.2.2.2.1.below hb) (And.intro (HK15.out.2.2.2.2.2.2.2.2.2.1.below hb) (And.intro (HK15.out.2.2.2.2.2.2.2.2.2.2.1.below hb) (And.intro (HK15.out.2.2.2.2.2.2.2.2.2.2.2.1.below hb) (And.intro (HK15.out.2.2.2.2.2.2.2.2.2.2.2.2.1.below hb) (And.intro (HK15.out.2.2.2.2.2.2.2.2.2.2.2.2.2.1.below hb) (And.intro (HK15.out.2.2.2.2.2.2.2.2.2.2.2.2.2.2.1.below hb) (HK15.out.2.2.2.2.2.2.2.2.2.2.2.2.2.2.2.below hb))))))))))))))))
  have HB16 := Lib.hid (HB15.out.trans (hb.mono HB15.out.size))
  clear HB15 HX15 HK15
  clear hb
  obtain ⟨x40, x41, x42, x43, x44, x45, x46, x47⟩ := HX16.out.2.2.2.2.1.cells
  have l4 := HX16.out.2.2.2.2.1.lt
  obtain ⟨x60, x61, x62, x63, x64, x65, x66, x67⟩ := HX16.out.2.2.2.2.2.2.1.cells
  have l6 := HX16.out.2.2.2.2.2.2.1.lt
  have hzz : (x.z == y.z) = true := by simpa using HT.out.is.z
  have hss : (x.s == y.s) = true := by simpa using HT.out.is.s
  go_wp2_with fail
  refine (rsame_h x x A5 B5 A7 B7 c5 d5 c7 d7 w16 (HK16.out.2.2.2.2.2.2.2.2.1) (HK16.out.2.2.2.2.2.2.2.2.2.1) (HK16.out.2.2.2.2.2.2.2.2.2.2.2.2.1) (HK16.out.2.2.2.2.2.2.2.2.2.2.2.2.2.1) rfl).mono ?_
  rintro e w17 ⟨rfl, hb⟩
  have HX17 := Lib.hid (And.intro (HX16.out.1.below hb) (And.intro (HX16.out.2.1.below hb) (And.intro (HX16.out.2.2.1.below hb) (And.intro (HX16.out.2.2.2.1.below hb) (And.intro (HX16.out.2.2.2.2.1.below hb) (And.intro (HX16.out.2.2.2.2.2.1.below hb) (And.intro (HX16.out.2.2.2.2.2.2.1.below hb) (HX16.out.2.2.2.2.2.2.2.below hb))))))))
  have HK17 := Lib.hid (And.intro (HK16.out.1.below hb) (And.intro (HK16.out.2.1.below hb) (And.intro (HK16.out.2.2.1.below hb) (And.intro (HK16.out.2.2.2.1.below hb) (And.intro (HK16.out.2.2.2.2.1.below hb) (And.intro (HK16.out.2.2.2.2.2.1.below hb) (And.intro (HK16.out.2.2.2.2.2.2.1.below hb) (And.intro (HK16.out.2.2.2.2.2.2.2.1.below hb) (And.intro (HK16.out.2.2.2.2.2.2.2.2.1.below hb) (And.intro (HK16.out.2.2.2.2.2.2.2.2.2.1.below hb) (And.intro (HK16.out.2.2.2.2.2.2.2.2.2.2.1.below hb) (And.intro (HK16.out.2.2.2.2.2.2.2.2.2.2.2.1.below hb) (And.intro (HK16.out.2.2.2.2.2.2.2.2.2.2.2.2.1.below hb) (And.intro (HK16.out.2.2.2.2.2.2.2.2.2.2.2.2.2.1.below hb) (And.intro (HK16.out.2.2.2.2.2.2.2.2.2.2.2.2.2.2.1.below hb) (HK16.out.2.2.2.2.2.2.2.2.2.2.2.2.2.2.2.below hb))))))))))))))))
  have HB17 := Lib.hid (HB16.out.trans (hb.mono HB16.out.size))
  clear x40 x41 x42 x43 x44 x45 x46 x47 l4 x60 x61 x62 x63 x64 x65 x66 x67 l6 HB16 HX16 HK16
  clear hb
  obtain ⟨x50, x51, x52, x53, x54, x55, x56, x57⟩ := HX17.out.2.2.2.2.2.1.cells
  have l5 := HX17.out.2.2.2.2.2.1.lt
  obtain ⟨x70, x71, x72, x73, x74, x75, x76, x77⟩ := HX17.out.2.2.2.2.2.2.2.cells
  have l7 := HX17.out.2.2.2.2.2.2.2.lt
  go_wp2_with fail
  refine (rsame_h y y A6 B6 A8 B8 c6 d6 c8 d8 w17 (HK17.out.2.2.2.2.2.2.2.2.2.2.1) (HK17.out.2.2.2.2.2.2.2.2.2.2.2.1) (HK17.out.2.2.2.2.2.2.2.2.2.2.2.2.2.2.1) (HK17.out.2.2.2.2.2.2.2.2.2.2.2.2.2.2.2) rfl).mono ?_
  rintro e w18 ⟨rfl, hb⟩
  have HX18 := Lib.hid (And.intro (HX17.out.1.below hb) (And.intro (HX17.out.2.1.below hb) (And.intro (HX17.out.2.2.1.below hb) (And.intro (HX17.out.2.2.2.1.below hb) (And.intro (HX17.out.2.2.2.2.1.below hb) (And.intro (HX17.out.2.2.2.2.2.1.below hb) (And.intro (HX17.out.2.2.2.2.2.2.1.below hb) (HX17.out.2.2.2.2.2.2.2.below hb))))))))
  have HK18 := Lib.hid (And.intro (HK17.out.1.below hb) (And.intro (HK17.out.2.1.below hb) (And.intro (HK17.out.2.2.1.below hb) (And.intro (HK17.out.2.2.2.1.below hb) (And.intro (HK17.out.2.2.2.2.1.below hb) (And.intro (HK17.out.2.2.2.2.2.1.below hb) (And.intro (HK17.out.2.2.2.2.2.2.1.below hb) (And.intro (HK17.out.2.2.2.2.2.2.2.1.below hb) (And.intro (HK17.out.2.2.2.2.2.2.2.2.1.below hb) (And.intro (HK17.out.2.2.2.2.2.2.2.2.2.1.below hb) (And.intro (HK17.out.2.2.2.2.2.2.2.2.2.2.1.below hb) (And.intro (HK17.out.2.2.2.2.2.2.2.2.2.2.2.1.below hb) (And.intro (HK17.out.2.2.2.2.2.2.2.2.2.2.2.2.1.below hb) (And.intro (HK17.out.2.2.2.2.2.2.2.2.2.2.2.2.2.1.below hb) (And.intro (HK17.out.2.2.2.2.2.2.2.2.2.2.2.2.2.2.1.below hb) (HK17.out.2.2.2.2.2.2.2.2.2.2.2.2.2.2.2.below hb))))))))))))))))
  have HB18 := Lib.hid (HB17.out.trans (hb.mono HB17.out.size))
  clear x50 x51 x52 x53 x54 x55 x56 x57 l5 x70 x71 x72 x73 x74 x75 x76 x77 l7 HB17 HX17 HK17
  clear hb
  obtain ⟨x40, x41, x42, x43, x44, x45, x46, x47⟩ := HX18.out.2.2.2.2.1.cells
  have l4 := HX18.out.2.2.2.2.1.lt
  obtain ⟨x50, x51, x52, x53, x54, x55, x56, x57⟩ := HX18.out.2.2.2.2.2.1.cells
  have l5 := HX18.out.2.2.2.2.2.1.lt
  go_wp2_with fail
  go_ret
  exact ⟨rfl, HB18.out⟩
set_option maxHeartbeats 3000000 in
set_option maxRecDepth 100000 in
theorem downs_none (a b : HV) (A B A' B' : Option Addr) (c d c' d' : Nat) (t u : Int) (w : World) (hP : Bk w A a.P) (hQ : Bk w B a.Q) (hP' : Bk w A' b.P) (hQ' : Bk w B' b.Q) (za : 0 ≤ a.zc ∧ a.zc ≤ 18446744073709551615) (zb : 0 ≤ b.zc ∧ b.zc ≤ 18446744073709551615) (hf : rightF [a, b] = false) :
    Calls Try.prog 3 #[.agg #[.int .i64 a.k, .int .i64 a.s, .int .i64 a.z, .int .u64 a.zc, .int .u64 a.ct, .int .i64 a.sm, .slice A a.P.length c, .slice B a.Q.length d], .agg #[.int .i64 b.k, .int .i64 b.s, .int .i64 b.z, .int .u64 b.zc, .int .u64 b.ct, .int .i64 b.sm, .slice A' b.P.length c', .slice B' b.Q.length d'], .int .i64 t, .int .i64 u] w fun e w' => e = .returned (.bool true) ∧ Below w.heap.size w w' := by
  have HF := Lib.hid hf
  clear hf
  have HKw := Lib.hid (And.intro (And.intro hP hQ) (And.intro hP' hQ'))
  have hb0 := (((Below.refl w.heap.size w).alloc (Nat.le_refl _) (.cells #[.int .i64 a.k, .int .i64 a.s, .int .i64 a.z, .int .u64 a.zc, .int .u64 a.ct, .int .i64 a.sm, .slice A a.P.length c, .slice B a.Q.length d] 25)).alloc (by simp) (.cells #[.int .i64 b.k, .int .i64 b.s, .int .i64 b.z, .int .u64 b.zc, .int .u64 b.ct, .int .i64 b.sm, .slice A' b.P.length c', .slice B' b.Q.length d'] 25)).alloc (by simp; omega) (.cells #[.int .i64 a.k, .int .i64 a.s, .int .i64 a.z, .int .u64 a.zc, .int .u64 a.ct, .int .i64 a.sm, .slice A a.P.length c, .slice B a.Q.length d, .int .i64 b.k, .int .i64 b.s, .int .i64 b.z, .int .u64 b.zc, .int .u64 b.ct, .int .i64 b.sm, .slice A' b.P.length c', .slice B' b.Q.length d'] 25)
  have bx0 := ((Box.new w (.int .i64 a.k) (.int .i64 a.s) (.int .i64 a.z) (.int .u64 a.zc) (.int .u64 a.ct) (.int .i64 a.sm) (.slice A a.P.length c) (.slice B a.Q.length d)).alloc (.cells #[.int .i64 b.k, .int .i64 b.s, .int .i64 b.z, .int .u64 b.zc, .int .u64 b.ct, .int .i64 b.sm, .slice A' b.P.length c', .slice B' b.Q.length d'] 25)).alloc (.cells #[.int .i64 a.k, .int .i64 a.s, .int .i64 a.z, .int .u64 a.zc, .int .u64 a.ct, .int .i64 a.sm, .slice A a.P.length c, .slice B a.Q.length d, .int .i64 b.k, .int .i64 b.s, .int .i64 b.z, .int .u64 b.zc, .int .u64 b.ct, .int .i64 b.sm, .slice A' b.P.length c', .slice B' b.Q.length d'] 25)
  have bx1 := (Box.newAt (w.alloc (.cells #[.int .i64 a.k, .int .i64 a.s, .int .i64 a.z, .int .u64 a.zc, .int .u64 a.ct, .int .i64 a.sm, .slice A a.P.length c, .slice B a.Q.length d] 25)) (w.heap.size + 1) (by simp) (.int .i64 b.k) (.int .i64 b.s) (.int .i64 b.z) (.int .u64 b.zc) (.int .u64 b.ct) (.int .i64 b.sm) (.slice A' b.P.length c') (.slice B' b.Q.length d')).alloc (.cells #[.int .i64 a.k, .int .i64 a.s, .int .i64 a.z, .int .u64 a.zc, .int .u64 a.ct, .int .i64 a.sm, .slice A a.P.length c, .slice B a.Q.length d, .int .i64 b.k, .int .i64 b.s, .int .i64 b.z, .int .u64 b.zc, .int .u64 b.ct, .int .i64 b.sm, .slice A' b.P.length c', .slice B' b.Q.length d'] 25)
  have bx2 := Hl.two (w := ((w.alloc (.cells #[.int .i64 a.k, .int .i64 a.s, .int .i64 a.z, .int .u64 a.zc, .int .u64 a.ct, .int .i64 a.sm, .slice A a.P.length c, .slice B a.Q.length d] 25)).alloc (.cells #[.int .i64 b.k, .int .i64 b.s, .int .i64 b.z, .int .u64 b.zc, .int .u64 b.ct, .int .i64 b.sm, .slice A' b.P.length c', .slice B' b.Q.length d'] 25)).alloc (.cells #[.int .i64 a.k, .int .i64 a.s, .int .i64 a.z, .int .u64 a.zc, .int .u64 a.ct, .int .i64 a.sm, .slice A a.P.length c, .slice B a.Q.length d, .int .i64 b.k, .int .i64 b.s, .int .i64 b.z, .int .u64 b.zc, .int .u64 b.ct, .int .i64 b.sm, .slice A' b.P.length c', .slice B' b.Q.length d'] 25)) (g := w.heap.size + 1 + 1) (by have := heap_alloc_new ((w.alloc (.cells #[.int .i64 a.k, .int .i64 a.s, .int .i64 a.z, .int .u64 a.zc, .int .u64 a.ct, .int .i64 a.sm, .slice A a.P.length c, .slice B a.Q.length d] 25)).alloc (.cells #[.int .i64 b.k, .int .i64 b.s, .int .i64 b.z, .int .u64 b.zc, .int .u64 b.ct, .int .i64 b.sm, .slice A' b.P.length c', .slice B' b.Q.length d'] 25)) (.cells #[.int .i64 a.k, .int .i64 a.s, .int .i64 a.z, .int .u64 a.zc, .int .u64 a.ct, .int .i64 a.sm, .slice A a.P.length c, .slice B a.Q.length d, .int .i64 b.k, .int .i64 b.s, .int .i64 b.z, .int .u64 b.zc, .int .u64 b.ct, .int .i64 b.sm, .slice A' b.P.length c', .slice B' b.Q.length d'] 25); simpa using this) (hP.below hb0) (hQ.below hb0) (hP'.below hb0) (hQ'.below hb0) za zb
  have HX0 := Lib.hid (And.intro bx0 bx1)
  have HK0 := Lib.hid (And.intro (hP.below hb0) (And.intro (hQ.below hb0) (And.intro (hP'.below hb0) (hQ'.below hb0))))
  have HB0 := Lib.hid hb0
  have HL := Lib.hid bx2
  clear hP hQ hP' hQ' za zb hb0 bx0 bx1 bx2
  go_enter Try.func3, Try.ntmps3
  go_wp2_with fail
  generalize ((w.alloc (.cells #[.int .i64 a.k, .int .i64 a.s, .int .i64 a.z, .int .u64 a.zc, .int .u64 a.ct, .int .i64 a.sm, .slice A a.P.length c, .slice B a.Q.length d] 25)).alloc (.cells #[.int .i64 b.k, .int .i64 b.s, .int .i64 b.z, .int .u64 b.zc, .int .u64 b.ct, .int .i64 b.sm, .slice A' b.P.length c', .slice B' b.Q.length d'] 25)).alloc (.cells #[.int .i64 a.k, .int .i64 a.s, .int .i64 a.z, .int .u64 a.zc, .int .u64 a.ct, .int .i64 a.sm, .slice A a.P.length c, .slice B a.Q.length d, .int .i64 b.k, .int .i64 b.s, .int .i64 b.z, .int .u64 b.zc, .int .u64 b.ct, .int .i64 b.sm, .slice A' b.P.length c', .slice B' b.Q.length d'] 25) = w0 at *
  refine (lright_any (some ⟨w.heap.size + 1 + 1, 0, none⟩) 2 2 [a, b] w0 rfl HL.out).mono ?_
  rintro e w1 ⟨rfl, hb⟩
  rw [HF.out]
  have HX1 := Lib.hid (And.intro (HX0.out.1.below hb) (HX0.out.2.below hb))
  have HK1 := Lib.hid (And.intro (HK0.out.1.below hb) (And.intro (HK0.out.2.1.below hb) (And.intro (HK0.out.2.2.1.below hb) (HK0.out.2.2.2.below hb))))
  have HB1 := Lib.hid (HB0.out.trans (hb.mono HB0.out.size))
  clear HB0 HX0 HK0
  clear hb HL
  obtain ⟨x00, x01, x02, x03, x04, x05, x06, x07⟩ := HX1.out.1.cells
  have l0 := HX1.out.1.lt
  obtain ⟨x10, x11, x12, x13, x14, x15, x16, x17⟩ := HX1.out.2.cells
  have l1 := HX1.out.2.lt
  go_wp2_with fail
  refine (awake07 w1).mono ?_
  rintro e w2 ⟨rfl, hb⟩
  have HX2 := Lib.hid (And.intro (HX1.out.1.below hb) (HX1.out.2.below hb))
  have HK2 := Lib.hid (And.intro (HK1.out.1.below hb) (And.intro (HK1.out.2.1.below hb) (And.intro (HK1.out.2.2.1.below hb) (HK1.out.2.2.2.below hb))))
  have HB2 := Lib.hid (HB1.out.trans (hb.mono HB1.out.size))
  clear x00 x01 x02 x03 x04 x05 x06 x07 l0 x10 x11 x12 x13 x14 x15 x16 x17 l1 HB1 HX1 HK1
  clear hb
  go_wp2_with fail
  go_ret
  exact ⟨rfl, HB2.out⟩
theorem downs_walk (a b : HV) (A B A' B' : Option Addr) (c d c' d' : Nat) (t u : Int) (w : World) (hP : Bk w A a.P) (hQ : Bk w B a.Q) (hP' : Bk w A' b.P) (hQ' : Bk w B' b.Q) (za : 0 ≤ a.zc ∧ a.zc ≤ 18446744073709551615) (zb : 0 ≤ b.zc ∧ b.zc ≤ 18446744073709551615) (sa : inI64 a.sm) (sb : inI64 b.sm) :
    Calls Try.prog 3 #[.agg #[.int .i64 a.k, .int .i64 a.s, .int .i64 a.z, .int .u64 a.zc, .int .u64 a.ct, .int .i64 a.sm, .slice A a.P.length c, .slice B a.Q.length d], .agg #[.int .i64 b.k, .int .i64 b.s, .int .i64 b.z, .int .u64 b.zc, .int .u64 b.ct, .int .i64 b.sm, .slice A' b.P.length c', .slice B' b.Q.length d'], .int .i64 t, .int .i64 u] w fun e w' => e = .returned (.bool true) ∧ Below w.heap.size w w' := by
  rcases hf : rightF [a, b] with _ | _
  · exact downs_none a b A B A' B' c d c' d' t u w hP hQ hP' hQ' za zb hf
  · have h := List.all_eq_true.1 hf
    have ha := h a (by simp)
    have hb := h b (by simp)
    exact downs_main a b A B A' B' c d c' d' t u w hP hQ hP' hQ' (fewB_ok ha za.1 sa hP.2.1 hQ.2.1) (fewB_ok hb zb.1 sb hP'.2.1 hQ'.2.1) ⟨ha, hb⟩
end Go.Proofs.Ytofaciagkkipbaa
