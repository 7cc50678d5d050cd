/- Down. -/
import Derived.Test.YtbibhjcmdehdbaaMdI
namespace Go.Proofs.Ytbibhjcmdehdbaa
open Go.RowKit Go.Sort Go.Maps
set_option linter.unusedVariables false

def downE (s t : Int) : Int := if rightB t = true ∧ t ≤ s then 0 else 20
def downO (h : HV) (t : Int) : HV := if downE h.s t = 0 then downF h t else zeroV
theorem RetH.zero {w w' : World} {E : Int} (hb : Below w.heap.size w w') : RetH w zeroV E (.returned (.tuple #[.agg #[.int .i64 0, .int .i64 0, .int .i64 0, .int .u64 0, .int .u64 0, .int .i64 0, .slice none 0 0, .slice none 0 0], .int .i64 E])) w' :=
  ⟨none, none, 0, 0, rfl, Bk.nil _ _, Bk.nil _ _, hb, newA_none _, newA_none _⟩
def RetC (w : World) (r : HV) (e : Ending) (w' : World) : Prop := ∃ (A B : Option Addr) (c d : Nat), e = .returned (hvA r A B c d) ∧ Bk w' A r.P ∧ Bk w' B r.Q ∧ Below w.heap.size w w' ∧ NewA w A ∧ NewA w B
theorem own_new {w0 w : World} {A : Option Addr} {n c : Nat} {X : List Value} (h : w.ownsRow w0.heap.size 80 2 (.slice A n c) n X) : NewA w0 A := fun a ha => (h.lt a.block (by rw [ha]; rfl)).1
theorem clone_hv (h : HV) (A B : Option Addr) (c d : Nat) (w : World) (hP : Bk w A h.P) (hQ : Bk w B h.Q) (hlp : h.P.length ≤ 1100) (hlq : h.Q.length ≤ 1100) :
    Calls Try.prog 57 #[hvA h A B c d] w (RetC w h) := by
  refine (hclone_any h.k h.s h.z h.zc h.ct h.sm A B c d h.P h.Q w hP hQ hlp hlq).mono ?_
  rintro e w' ⟨A', B', c', d', rfl, o1, o2, _, hb⟩
  exact ⟨A', B', c', d', rfl, own_bk o1 hP.2.1 (by omega), own_bk o2 hQ.2.1 (by omega), hb, own_new o1, own_new o2⟩
theorem RetC.fin {w w4 w5 : World} {r : HV} {E : Int} {A B : Option Addr} {c d : Nat} (hs : w.heap.size ≤ w4.heap.size) (hb : Below w.heap.size w w5) (hA : Bk w5 A r.P) (hB : Bk w5 B r.Q) (nA : NewA w4 A) (nB : NewA w4 B) : RetH w r E (.returned (.tuple #[hvA r A B c d, .int .i64 E])) w5 :=
  ⟨A, B, c, d, rfl, hA, hB, hb, nA.mono hs, nB.mono hs⟩
set_option maxHeartbeats 2000000 in
set_option maxRecDepth 100000 in
theorem down_bad (k s z zc ct sm t : Int) (A B : Option Addr) (c d : Nat) (P Q : List (Int × Int)) (w : World) (ht : ¬ (rightB t = true ∧ t ≤ s)) :
    Calls Try.prog 36 #[.agg #[.int .i64 k, .int .i64 s, .int .i64 z, .int .u64 zc, .int .u64 ct, .int .i64 sm, .slice A P.length c, .slice B Q.length d], .int .i64 t] w (RetH w zeroV 20) := by
  have HB := Lib.hid (((Below.refl w.heap.size w).alloc (Nat.le_refl _) (.cells #[.int .i64 k, .int .i64 s, .int .i64 z, .int .u64 zc, .int .u64 ct, .int .i64 sm, .slice A P.length c, .slice B Q.length d] 25)).alloc (by simp) (.cells #[.int .i64 0, .int .i64 0, .int .i64 0, .int .u64 0, .int .u64 0, .int .i64 0, .slice none 0 0, .slice none 0 0] 25))
  rcases hR : rightB t with _ | _
  · clear ht
    go_enter Try.func36, Try.ntmps36
    go_wp2_with (go_at_call 72; refine (right_any _ _).mono ?_; rintro e w' ⟨rfl, rfl⟩)
    exact bodyPost_ret (v := .tuple #[.agg #[.int .i64 0, .int .i64 0, .int .i64 0, .int .u64 0, .int .u64 0, .int .i64 0, .slice none 0 0, .slice none 0 0], .int .i64 20]) (by simp [results, Try.results36, go_sem]) rfl (RetH.zero HB.out)
  · have h1 : s < t := by
      refine Classical.byContradiction fun h => ht ⟨hR, by omega⟩
    have d1 : decide (s < t) = true := by simpa using h1
    clear ht
    go_enter Try.func36, Try.ntmps36
    go_wp2_with (go_at_call 72; refine (right_any _ _).mono ?_; rintro e w' ⟨rfl, rfl⟩)
    exact bodyPost_ret (v := .tuple #[.agg #[.int .i64 0, .int .i64 0, .int .i64 0, .int .u64 0, .int .u64 0, .int .i64 0, .slice none 0 0, .slice none 0 0], .int .i64 20]) (by simp [results, Try.results36, go_sem]) rfl (RetH.zero HB.out)
theorem checkN (k s z zc ct : Int) (sm : Value) (A B : Option Addr) (c d : Nat) (P Q : List (Int × Int)) (w : World) (z0 : 0 ≤ zc) (z1 : zc ≤ 18446744073709551615) (hP : Bk w A P) (hQ : Bk w B Q) (e0 : Int) (h : checkF k s z zc ct P Q = e0) :
    Calls Try.prog 73 #[.agg #[.int .i64 k, .int .i64 s, .int .i64 z, .int .u64 zc, .int .u64 ct, sm, .slice A P.length c, .slice B Q.length d]] w fun e w' => e = .returned (.int .i64 e0) ∧ Below w.heap.size w w' := by
  refine (check_any k s z zc ct sm A B c d P Q w z0 z1 hP hQ).mono ?_
  rintro e w' ⟨rfl, hb⟩
  exact ⟨by rw [h], hb⟩
theorem Good.z1 {h : HV} (o : Good h) : h.zc ≤ 18446744073709551615 := by
  have := o.ct; have := o.big; have := o.nP.cnt; have := o.nQ.cnt; omega
set_option maxHeartbeats 2000000 in
set_option maxRecDepth 100000 in
theorem down_same_any (k s z zc ct sm : Int) (A B : Option Addr) (c d : Nat) (P Q : List (Int × Int)) (w : World) (hP : Bk w A P) (hQ : Bk w B Q) (o : Ok ⟨k, s, z, zc, ct, sm, P, Q⟩) :
    Calls Try.prog 36 #[.agg #[.int .i64 k, .int .i64 s, .int .i64 z, .int .u64 zc, .int .u64 ct, .int .i64 sm, .slice A P.length c, .slice B Q.length d], .int .i64 s] w (RetH w ⟨k, s, z, zc, ct, sm, P, Q⟩ 0) := by
  obtain ⟨bx, bz⟩ := Box.two w (.int .i64 k) (.int .i64 s) (.int .i64 z) (.int .u64 zc) (.int .u64 ct) (.int .i64 sm) (.slice A P.length c) (.slice B Q.length d) (.int .i64 0) (.int .i64 0) (.int .i64 0) (.int .u64 0) (.int .u64 0) (.int .i64 0) (.slice none 0 0) (.slice none 0 0)
  have hb0 : Below w.heap.size w ((w.alloc (.cells #[.int .i64 k, .int .i64 s, .int .i64 z, .int .u64 zc, .int .u64 ct, .int .i64 sm, .slice A P.length c, .slice B Q.length d] 25)).alloc (.cells #[.int .i64 0, .int .i64 0, .int .i64 0, .int .u64 0, .int .u64 0, .int .i64 0, .slice none 0 0, .slice none 0 0] 25)) := ((Below.refl _ _).alloc (Nat.le_refl _) _).alloc (by simp) _
  have HP := Lib.hid hP
  have HQ := Lib.hid hQ
  have HB0 := Lib.hid hb0
  have HO := Lib.hid o
  have HR := o.s
  have hl1 := o.lP
  have hl2 := o.lQ
  simp only at HR hl1 hl2
  have HX := Lib.hid (And.intro bx bz)
  have d1 : decide (s < s) = false := by simp
  clear hP hQ hb0 o bx bz
  go_enter Try.func36, Try.ntmps36
  go_wp2_with (go_at_call 72; refine (right_any _ _).mono ?_; rintro e w' ⟨rfl, rfl⟩)
  generalize ((w.alloc (.cells #[.int .i64 k, .int .i64 s, .int .i64 z, .int .u64 zc, .int .u64 ct, .int .i64 sm, .slice A P.length c, .slice B Q.length d] 25)).alloc (.cells #[.int .i64 0, .int .i64 0, .int .i64 0, .int .u64 0, .int .u64 0, .int .i64 0, .slice none 0 0, .slice none 0 0] 25)) = w0 at *
  refine (checkN k s z zc ct (.int .i64 sm) A B c d P Q w0 HO.out.zc HO.out.toGood.z1 (HP.out.below HB0.out) (HQ.out.below HB0.out) 0 HO.out.chk).mono ?_
  rintro e w1 ⟨rfl, hb1⟩
  have HX1 := Lib.hid (And.intro (HX.out.1.below hb1) (HX.out.2.below hb1))
  have HB1 := Lib.hid (HB0.out.trans (hb1.mono HB0.out.size))
  obtain ⟨x0, x1, x2, x3, x4, x5, x6, x7⟩ := HX1.out.1.cells
  have hlt := HX1.out.1.lt
  clear hb1
  go_wp2_with fail
  refine (clone_hv ⟨k, s, z, zc, ct, sm, P, Q⟩ A B c d w1 (HP.out.below HB1.out) (HQ.out.below HB1.out) (by show P.length ≤ 1100; omega) (by show Q.length ≤ 1100; omega)).mono ?_
  rintro e w2 ⟨A2, B2, c2, d2, rfl, hA2, hB2, hb2, nA2, nB2⟩
  have HR2 := Lib.hid (RetH.fin (c := c2) (d := d2) (E := 0) (g := w.heap.size + 1) (HB1.out.trans (hb2.mono HB1.out.size)) HB1.out.size HX1.out.2.lt (by omega) hA2 hB2 nA2 nB2)
  have HX2 := Lib.hid (HX1.out.2.below hb2)
  clear x0 x1 x2 x3 x4 x5 x6 x7 hlt hA2 hB2 hb2 nA2 nB2
  obtain ⟨x0, x1, x2, x3, x4, x5, x6, x7⟩ := HX2.out.cells
  obtain ⟨f0, f1, f2, f3, f4, f5, f6, f7⟩ := HX2.out.frozen
  have hlt := HX2.out.lt
  go_wp2_with fail
  exact bodyPost_ret (v := .tuple #[.agg #[.int .i64 k, .int .i64 s, .int .i64 z, .int .u64 zc, .int .u64 ct, .int .i64 sm, .slice A2 P.length c2, .slice B2 Q.length d2], .int .i64 0]) (by simp [results, Try.results36, go_sem, x0, x1, x2, x3, x4, x5, x6, x7]) rfl (HR2.out _ _ _ _ _ _ _ _)
theorem coarserN (f t : Int) (A : Option Addr) (c : Nat) (l : List (Int × Int)) (w1 W : World) (hW : Below w1.heap.size w1 W) (hP : Bk w1 A l) (hl : l.length ≤ 1000) (hft : okTo f t = true) (hi : ∀ p ∈ l, inB f p.1 = true) :
    Calls Try.prog 74 #[.slice A l.length c, .int .i64 f, .int .i64 t] W fun e w' => ∃ A' c', e = .returned (.slice A' (mv f t l).length c') ∧ (Bk w' A' (mv f t l) ∧ NewA w1 A' ∧ Below W.heap.size W w') ∧ Below w1.heap.size w1 w' := by
  refine (coarser_any f t A c l W (hP.below hW) hl hft hi).mono ?_
  rintro e w' ⟨A', c', rfl, h1, h2, h3⟩
  exact ⟨A', c', rfl, ⟨h1, h3.mono hW.size, h2⟩, hW.trans (h2.mono hW.size)⟩
theorem cells167 {W : World} {g : Nat} {v0 v1 v2 v3 v4 v5 v6 v7 : Value} (h : Box W g v0 v1 v2 v3 v4 v5 v6 v7) : W.cell? ⟨g, 1, none⟩ = some v1 ∧ W.cell? ⟨g, 6, none⟩ = some v6 ∧ W.cell? ⟨g, 7, none⟩ = some v7 ∧ W.frozen? ⟨g, 6, none⟩ = false ∧ W.frozen? ⟨g, 7, none⟩ = false := by
  obtain ⟨_, a, _, _, _, _, b, c⟩ := h.cells
  obtain ⟨_, _, _, _, _, _, d, e⟩ := h.frozen
  exact ⟨a, b, c, d, e⟩
theorem Box.set6 {W : World} {g : Nat} {v0 v1 v2 v3 v4 v5 v6 v7 : Value} (h : Box W g v0 v1 v2 v3 v4 v5 v6 v7) (u : Value) : Box (W.setCell ⟨g, 6, none⟩ u) g v0 v1 v2 v3 v4 v5 u v7 := heap_set_at h u
theorem Box.set7 {W : World} {g : Nat} {v0 v1 v2 v3 v4 v5 v6 v7 : Value} (h : Box W g v0 v1 v2 v3 v4 v5 v6 v7) (u : Value) : Box (W.setCell ⟨g, 7, none⟩ u) g v0 v1 v2 v3 v4 v5 v6 u := heap_set_at h u
theorem Box.set1 {W : World} {g : Nat} {v0 v1 v2 v3 v4 v5 v6 v7 : Value} (h : Box W g v0 v1 v2 v3 v4 v5 v6 v7) (u : Value) : Box (W.setCell ⟨g, 1, none⟩ u) g v0 u v2 v3 v4 v5 v6 v7 := heap_set_at h u
def ZeroBox (W : World) (g : Nat) : Prop := Box W g (.int .i64 0) (.int .i64 0) (.int .i64 0) (.int .u64 0) (.int .u64 0) (.int .i64 0) (.slice none 0 0) (.slice none 0 0)
/-- the box behind both sides' moving -/
def DnRel (w : World) (k s z zc ct sm : Int) (X Y : List (Int × Int)) (wx : World) : Prop :=
  ∃ (A B : Option Addr) (c d : Nat), Box wx w.heap.size (.int .i64 k) (.int .i64 s) (.int .i64 z) (.int .u64 zc) (.int .u64 ct) (.int .i64 sm) (.slice A X.length c) (.slice B Y.length d) ∧ ZeroBox wx (w.heap.size + 1) ∧ Bk wx A X ∧ Bk wx B Y ∧ (∀ a, A = some a → a.block ≠ w.heap.size) ∧ (∀ a, B = some a → a.block ≠ w.heap.size) ∧ Below w.heap.size w wx
theorem dn_end {w w1 : World} {k s z zc ct sm : Int} {A B : Option Addr} {n m c d : Nat} {X Y : List (Int × Int)} (b1 : Box w1 w.heap.size (.int .i64 k) (.int .i64 s) (.int .i64 z) (.int .u64 zc) (.int .u64 ct) (.int .i64 sm) (.slice A n c) (.slice B m d)) (b2 : ZeroBox w1 (w.heap.size + 1)) (hb : Below w.heap.size w w1)
    (w2 w3 : World) (A1 B1 : Option Addr) (c1 d1 : Nat) (hA : Bk w2 A1 X) (nA : NewA w1 A1) (h23 : Below w2.heap.size w2 w3) (hB : Bk w3 B1 Y) (nB : NewA w1 B1) (h13 : Below w1.heap.size w1 w3) :
    DnRel w k s z zc ct sm X Y ((w3.setCell ⟨w.heap.size, 6, none⟩ (.slice A1 X.length c1)).setCell ⟨w.heap.size, 7, none⟩ (.slice B1 Y.length d1)) := by
  have nA1 := nA.ne b1.lt
  have nB1 := nB.ne b1.lt
  have hne : w.heap.size + 1 ≠ w.heap.size := by omega
  exact ⟨A1, B1, c1, d1, ((b1.below h13).set6 _).set7 _, Box.off (Box.off (Box.below b2 h13) hne 6 _) hne 7 _, ((hA.below h23).off nA1 6 _).off nA1 7 _, (hB.off nB1 6 _).off nB1 7 _, nA1, nB1, ((hb.trans (h13.mono hb.size)).setCell (p := ⟨w.heap.size, 6, none⟩) (Nat.le_refl _) _).setCell (p := ⟨w.heap.size, 7, none⟩) (Nat.le_refl _) _⟩
end Go.Proofs.Ytbibhjcmdehdbaa
