/- The document's Widen. -/
import Derived.Test.YtbibhjcmdehdbaaRfE
import Derived.Test.YtbibhjcmdehdbaaMdM
import Derived.Deep.RegionLaw
import Derived.Test.YtbibhjcmdehdbaaMdS
import Derived.Test.YtbibhjcmdehdbaaMdX
/-! The document's swallow. -/
namespace Go.Proofs.Ytbibhjcmdehdbaa
open Go.RowKit Go.Sort Go.Maps
set_option linter.unusedVariables false

theorem grownBy_set (w : World) (g i : Nat) (u : Value) : w.grownBy (w.setCell ⟨g, i, none⟩ u) (some g) := ⟨rfl, rfl, rfl, by simp [World.setCell], fun k hk hne => heap_setCell_other w ⟨g, i, none⟩ k u (by intro e; exact hne (by rw [e]))⟩
theorem Box.grown {W W' : World} {g : Nat} {row : Option Nat} {v0 v1 v2 v3 v4 v5 v6 v7 : Value} (h : Box W g v0 v1 v2 v3 v4 v5 v6 v7) (hg : W.grownBy W' row) (hr : some g ≠ row) : Box W' g v0 v1 v2 v3 v4 v5 v6 v7 := (hg.block g h.lt hr).trans h
theorem Bk.grown {W W' : World} {A : Option Addr} {l : List (Int × Int)} {row : Option Nat} (h : Bk W A l) (hg : W.grownBy W' row) (hr : l.length = 0 ∨ ∀ a, A = some a → some a.block ≠ row) : Bk W' A l := by
  obtain ⟨h1, h2, h3⟩ := h
  refine ⟨h1, h2, ?_⟩
  rcases hr with hr | hr
  · exact .inl hr
  · rcases h3 with h3 | ⟨b, off, rfl, hc⟩
    · exact .inl h3
    · refine .inr ⟨b, off, rfl, fun j p hj => ?_⟩
      have hb := hr _ rfl
      simp only at hb
      obtain ⟨c1, c2⟩ := hc j p hj
      have hlt := block_lt_of_cell c1
      simp only at hlt
      have e := hg.block b hlt hb
      exact ⟨(World.cell?_of_block (a := ⟨b, off + j * 2, none⟩) e).trans c1, (World.cell?_of_block (a := ⟨b, off + j * 2 + 1, none⟩) e).trans c2⟩
theorem Bk.lt_ {w : World} {A : Option Addr} {l : List (Int × Int)} (h : Bk w A l) : l.length = 0 ∨ ∀ a, A = some a → a.block < w.heap.size := by
  by_cases h0 : l.length = 0
  · exact .inl h0
  · obtain ⟨b, off, e, hc⟩ := h.some_ (by omega)
    refine .inr fun a ha => ?_
    obtain ⟨p, hp⟩ := getElem?_lt (l := l) (k := 0) (by omega)
    have := block_lt_of_cell (hc 0 p hp).1
    rw [e] at ha
    injection ha with ha
    rw [← ha]
    exact this
/-- append of one bucket, at a step of a region -/
theorem step_app_b {ops : Array Oper} {o : Oper} {a : Act} {w : World} {K : Act → World → Prop} {Q : Exit → Act → World → Prop} {E : Prop} (hgd : o.guard = none) (s x : Operand)
    (ho : o.op = .call { callee := .builtin .append, args := #[s, x], argTypes := #[23, 23] })
    (base : Nat) (A : Option Addr) (n c : Nat) (l : List (Int × Int)) (hs : a.eval s = .slice A n c) (hown : w.ownsRow base 80 2 (.slice A n c) n (cellsL l))
    (g : Nat) (hx : a.eval x = .slice (some ⟨g, 0, none⟩) 1 1) (y : Int × Int) (hy0 : w.cell? ⟨g, 0, none⟩ = some (.int .i64 y.1)) (hy1 : w.cell? ⟨g, 1, none⟩ = some (.int .u64 y.2)) (hl : n + 1 ≤ 1000000) (hbase : base ≤ w.heap.size)
    (h : ∀ A' c' w', w'.ownsRow base 80 2 (.slice A' (n + 1) c') (n + 1) (cellsL (l ++ [y])) → w.grownBy w' (Value.slice A n c).ownBlock → K (a.put o.dst (.slice A' (n + 1) c')) w') :
    if Region.wanted o (yielded ops a.tmps) = true then Oper.wp Try.prog o a w K Q else E := by
  have hw : Region.wanted o (yielded ops a.tmps) = true := by simp [Region.wanted, hgd]
  rw [if_pos hw]
  obtain ⟨i0, hi, hz0, hz1, hz2⟩ := info_parts infoB
  refine wp_append_own w s x 23 ho base 80 i0 (.agg #[.int .i64 0, .int .u64 0]) 2 16 Try.underlying23 hi hz0 hz1 hz2 rfl (by decide) _ n (cellsL l) hs hown ⟨g, 0, none⟩ 1 1 [.int .i64 y.1, .int .u64 y.2] hx rfl ?_ (by simp [Value.oneCell']) (by unfold maxLen; omega) (by omega) hbase ?_
  · intro j u hu
    have hj : j < 2 := (List.getElem?_eq_some_iff.1 hu).1
    rw [addr_at]
    rcases (show j = 0 ∨ j = 1 by omega) with rfl | rfl
    · simp at hu; subst hu; exact hy0
    · simp at hu; subst hu; exact hy1
  · intro v' w' h1 h2 _
    obtain ⟨A', c', rfl⟩ := ownB_shape h1
    have e : cellsL l ++ [.int .i64 y.1, .int .u64 y.2] = cellsL (l ++ [y]) := by rw [cellsL_append]; rfl
    rw [e] at h1
    exact h A' c' w' h1 h2
theorem own_set {w : World} {base : Nat} {e : TypeId} {size n : Nat} {A : Option Addr} {c : Nat} {xs : List Value} (h : w.ownsRow base e size (.slice A n c) n xs) {g : Nat} (hg : g < base) (i : Nat) (u : Value) : (w.setCell ⟨g, i, none⟩ u).ownsRow base e size (.slice A n c) n xs := by
  refine h.kept (grownBy_set w g i u) ?_
  cases hv : (Value.slice A n c).ownBlock with
  | none => exact .inl rfl
  | some k =>
    refine .inr fun e => ?_
    injection e with e
    have := (h.lt k hv).1
    omega
theorem own_ne_ {w : World} {base : Nat} {e : TypeId} {size n : Nat} {v : Value} {xs : List Value} (h : w.ownsRow base e size v n xs) {g : Nat} (hg : g < base) : some g ≠ v.ownBlock := fun e => by
  have := (h.lt g e.symm).1
  omega
theorem Bk.offg {w : World} {A : Option Addr} {l : List (Int × Int)} (h : Bk w A l) {g : Nat} (hg : l.length = 0 ∨ ∀ a, A = some a → a.block ≠ g) (i : Nat) (u : Value) : Bk (w.setCell ⟨g, i, none⟩ u) A l := by
  rcases hg with h0 | hg
  · exact ⟨h.1, h.2.1, .inl h0⟩
  · exact h.off hg i u
theorem cut_bd {h : HV} (g : Good h) (v : Int) (j k : Nat) : 0 ≤ h.zc + goneN h.s v (h.P.take j) ∧ h.zc + goneN h.s v (h.P.take j) ≤ 18446744073709551615 ∧ 0 ≤ h.zc + goneN h.s v h.P + goneN h.s v (h.Q.take k) ∧ h.zc + goneN h.s v h.P + goneN h.s v (h.Q.take k) ≤ 18446744073709551615 := by
  have a := gone_bd h.s v g.nP j
  have b := gone_bd h.s v g.nQ k
  have a2 := gone_bd h.s v g.nP h.P.length
  rw [List.take_length] at a2
  have c1 := g.ct
  have c2 := g.big
  have c3 := g.zc
  have c4 := g.nP.cnt
  have c5 := g.nQ.cnt
  omega
/-- the first loop -/
def Sw1 (h : HV) (A B : Option Addr) (c d : Nat) (v : Int) (w wb : World) (gO : Nat) (k : Nat) (wr : World) : Prop :=
  ∃ (A1 : Option Addr) (c1 : Nat) (X : List (Int × Int)) (Z : Int), X = keepL h.s v (h.P.take k) ∧ Z = h.zc + goneN h.s v (h.P.take k) ∧ (Box wr w.heap.size (.int .i64 h.k) (.int .i64 h.s) (.int .i64 h.z) (.int .u64 h.zc) (.int .u64 h.ct) (.int .i64 h.sm) (.slice A h.P.length c) (.slice B h.Q.length d) ∧ Box wr (w.heap.size + 1) (.int .i64 0) (.int .i64 0) (.int .i64 0) (.int .u64 0) (.int .u64 0) (.int .i64 0) (.slice none 0 0) (.slice none 0 0) ∧ Box wr gO (.int .i64 h.k) (.int .i64 h.s) (.int .i64 v) (.int .u64 Z) (.int .u64 h.ct) (.int .i64 h.sm) (.slice A1 X.length c1) (.slice none 0 0)) ∧ wr.ownsRow wb.heap.size 80 2 (.slice A1 X.length c1) X.length (cellsL X) ∧ wb.heap.size ≤ wr.heap.size ∧ Below w.heap.size w wr
/-- the second loop -/
def Sw2 (h : HV) (A B : Option Addr) (c d : Nat) (v : Int) (w wb : World) (gO : Nat) (A1 : Option Addr) (c1 : Nat) (X : List (Int × Int)) (Z0 : Int) (k : Nat) (wr : World) : Prop :=
  ∃ (B1 : Option Addr) (d1 : Nat) (Y : List (Int × Int)) (Z : Int), Y = keepL h.s v (h.Q.take k) ∧ Z = Z0 + goneN h.s v (h.Q.take k) ∧ (Box wr w.heap.size (.int .i64 h.k) (.int .i64 h.s) (.int .i64 h.z) (.int .u64 h.zc) (.int .u64 h.ct) (.int .i64 h.sm) (.slice A h.P.length c) (.slice B h.Q.length d) ∧ Box wr (w.heap.size + 1) (.int .i64 0) (.int .i64 0) (.int .i64 0) (.int .u64 0) (.int .u64 0) (.int .i64 0) (.slice none 0 0) (.slice none 0 0) ∧ Box wr gO (.int .i64 h.k) (.int .i64 h.s) (.int .i64 v) (.int .u64 Z) (.int .u64 h.ct) (.int .i64 h.sm) (.slice A1 X.length c1) (.slice B1 Y.length d1)) ∧ wr.ownsRow wb.heap.size 80 2 (.slice B1 Y.length d1) Y.length (cellsL Y) ∧ wb.heap.size ≤ wr.heap.size ∧ Below w.heap.size w wr ∧ Bk wr A1 X
set_option maxHeartbeats 4000000 in
set_option maxRecDepth 100000 in
theorem refswallow_any (h : HV) (u : Int) (A B : Option Addr) (c d : Nat) (w : World) (hP : Bk w A h.P) (hQ : Bk w B h.Q) (g : Good h) (lP : h.P.length ≤ 512) (lQ : h.Q.length ≤ 512) :
    Calls Try.prog 115 #[.agg #[.int .i64 h.k, .int .i64 h.s, .int .i64 h.z, .int .u64 h.zc, .int .u64 h.ct, .int .i64 h.sm, .slice A h.P.length c, .slice B h.Q.length d], .int .i64 u] w (RetC w (swF h u)) := by
  have hb0 := ((Below.refl w.heap.size w).alloc (Nat.le_refl _) (.cells #[.int .i64 h.k, .int .i64 h.s, .int .i64 h.z, .int .u64 h.zc, .int .u64 h.ct, .int .i64 h.sm, .slice A h.P.length c, .slice B h.Q.length d] 25)).alloc (by simp) (.cells #[.int .i64 0, .int .i64 0, .int .i64 0, .int .u64 0, .int .u64 0, .int .i64 0, .slice none 0 0, .slice none 0 0] 25)
  have bx0 := (Box.new w (.int .i64 h.k) (.int .i64 h.s) (.int .i64 h.z) (.int .u64 h.zc) (.int .u64 h.ct) (.int .i64 h.sm) (.slice A h.P.length c) (.slice B h.Q.length d)).alloc (.cells #[.int .i64 0, .int .i64 0, .int .i64 0, .int .u64 0, .int .u64 0, .int .i64 0, .slice none 0 0, .slice none 0 0] 25)
  have bx1 := Box.newAt (w.alloc (.cells #[.int .i64 h.k, .int .i64 h.s, .int .i64 h.z, .int .u64 h.zc, .int .u64 h.ct, .int .i64 h.sm, .slice A h.P.length c, .slice B h.Q.length d] 25)) (w.heap.size + 1) (by simp) (.int .i64 0) (.int .i64 0) (.int .i64 0) (.int .u64 0) (.int .u64 0) (.int .i64 0) (.slice none 0 0) (.slice none 0 0)
  have HX0 := Lib.hid (And.intro bx0 bx1)
  have HK0 := Lib.hid (And.intro (hP.below hb0) (hQ.below hb0))
  have HB0 := Lib.hid hb0
  have HKw := Lib.hid (And.intro hP hQ)
  have HG := Lib.hid g
  have hlen1 : (h.P.length : Int) ≤ 512 := by omega
  have hlen2 : (h.Q.length : Int) ≤ 512 := by omega
  clear hP hQ g hb0 bx0 bx1
  go_enter Try.func115, Try.ntmps115
  go_wp2_with fail
  generalize (w.alloc (.cells #[.int .i64 h.k, .int .i64 h.s, .int .i64 h.z, .int .u64 h.zc, .int .u64 h.ct, .int .i64 h.sm, .slice A h.P.length c, .slice B h.Q.length d] 25)).alloc (.cells #[.int .i64 0, .int .i64 0, .int .i64 0, .int .u64 0, .int .u64 0, .int .i64 0, .slice none 0 0, .slice none 0 0] 25) = w0 at *
  obtain ⟨x0, x1, x2, x3, x4, x5, x6, x7⟩ := HX0.out.1.cells
  have l0 := HX0.out.1.lt
  go_quiet ((go_at_call 123; first | exact stays rfl (within_any _ _ _ _ _ _ HG.out.s (HK0.out.1.drewN _) HG.out.iP (by omega)) | exact stays rfl (within_any _ _ _ _ _ _ HG.out.s (HK0.out.2.drewN _) HG.out.iQ (by omega))))
  have HX1 := Lib.hid (show Box (w0.drewN nq) w.heap.size (.int .i64 h.k) (.int .i64 h.s) (.int .i64 h.z) (.int .u64 h.zc) (.int .u64 h.ct) (.int .i64 h.sm) (.slice A h.P.length c) (.slice B h.Q.length d) ∧ Box (w0.drewN nq) (w.heap.size + 1) (.int .i64 0) (.int .i64 0) (.int .i64 0) (.int .u64 0) (.int .u64 0) (.int .i64 0) (.slice none 0 0) (.slice none 0 0) from HX0.out)
  have HK1 := Lib.hid (And.intro (HK0.out.1.drewN nq) (HK0.out.2.drewN nq))
  have HB1 := Lib.hid (below_drewN HB0.out nq)
  clear x0 x1 x2 x3 x4 x5 x6 x7 l0 HX0 HK0 HB0
  generalize w0.drewN nq = w1 at *
  obtain ⟨v, hv⟩ : ∃ v, outF h.s (h.P ++ h.Q) u = v := ⟨_, rfl⟩
  obtain ⟨va, hva⟩ : ∃ v, wiF h.s u h.P = v := ⟨_, rfl⟩
  obtain ⟨vb, hvb⟩ : ∃ v, wiF h.s u h.Q = v := ⟨_, rfl⟩
  have HVV := Lib.hid hv
  have hmax : max va vb = v := by rw [← hva, ← hvb, wi_out HG.out.s, wi_out HG.out.s, ← out_app HG.out.s, hv]
  rw [hva, hvb]
  clear hv hva hvb
  obtain ⟨x0, x1, x2, x3, x4, x5, x6, x7⟩ := HX1.out.1.cells
  have l0 := HX1.out.1.lt
  by_cases hab : va < vb
  · have d1 : decide (va < vb) = true := by simpa using hab
    obtain rfl : vb = v := by omega
    clear hab hmax
    go_wp2_with fail
    have hw : Below w1.heap.size w1 (w1.alloc (.cells #[.int .i64 h.k, .int .i64 h.s, .int .i64 vb, .int .u64 h.zc, .int .u64 h.ct, .int .i64 h.sm, .slice none 0 0, .slice none 0 0] 25)) := (Below.refl _ _).alloc (Nat.le_refl _) _
    have HX2 := Lib.hid (And.intro (HX1.out.1.below hw) (And.intro (HX1.out.2.below hw) (Box.new w1 (.int .i64 h.k) (.int .i64 h.s) (.int .i64 vb) (.int .u64 h.zc) (.int .u64 h.ct) (.int .i64 h.sm) (.slice none 0 0) (.slice none 0 0))))
    have HB2 := Lib.hid (HB1.out.trans (hw.mono HB1.out.size))
    have HLg := Lib.hid (show w.heap.size + 1 < w1.heap.size ∧ w1.heap.size < (w1.alloc (.cells #[.int .i64 h.k, .int .i64 h.s, .int .i64 vb, .int .u64 h.zc, .int .u64 h.ct, .int .i64 h.sm, .slice none 0 0, .slice none 0 0] 25)).heap.size from ⟨HX1.out.2.lt, by simp⟩)
    clear x0 x1 x2 x3 x4 x5 x6 x7 l0 hw HX1 HK1 HB1
    obtain ⟨gO, hgO⟩ : ∃ g, w1.heap.size = g := ⟨_, rfl⟩
    rw [hgO] at HX2 HLg ⊢
    clear hgO
    generalize w1.alloc (.cells #[.int .i64 h.k, .int .i64 h.s, .int .i64 vb, .int .u64 h.zc, .int .u64 h.ct, .int .i64 h.sm, .slice none 0 0, .slice none 0 0] 25) = w2 at *
    have HBs := Lib.hid HB2.out.size
    go_loopw [8] (fun i wr => ∃ k : Nat, k ≤ h.P.length ∧ i = .int .i64 k ∧ Hid (Sw1 h A B c d vb w w2 gO k wr)) (fun i _ => h.P.length - (intOf i).toNat)
    case atStart => exact ⟨0, by omega, rfl, Lib.hid ⟨none, 0, [], h.zc, rfl, by show h.zc = h.zc + cw _ []; rw [cw_nil]; omega, HX2.out, World.ownsRow_nil _ _ _ _, Nat.le_refl _, HB2.out⟩⟩
    case round =>
      obtain ⟨k, hk, rfl, HR⟩ := hrel
      obtain ⟨A1, c1, X, Z, hX, hZ, hbx, hown, hsz, hb⟩ := HR.out
      have HXr := Lib.hid hbx
      have HOr := Lib.hid hown
      have HBr := Lib.hid hb
      have HZr := Lib.hid (And.intro hX hZ)
      have HSr := Lib.hid hsz
      have hzb : 0 ≤ Z ∧ Z ≤ 18446744073709551615 := by rw [hZ]; exact ⟨(cut_bd HG.out vb k 0).1, (cut_bd HG.out vb k 0).2.1⟩
      clear hX hZ hown hb hsz HR
      obtain ⟨x0, x1, x2, x3, x4, x5, x6, x7⟩ := hbx.1.cells
      obtain ⟨y0, y1, y2, y3, y4, y5, y6, y7⟩ := hbx.2.2.cells
      obtain ⟨f0, f1, f2, f3, f4, f5, f6, f7⟩ := hbx.2.2.frozen
      have l0 := hbx.1.lt
      have l2 := hbx.2.2.lt
      clear hbx
      by_cases hlt : k < h.P.length
      · have hki : (k : Int) < (h.P.length : Int) := by omega
        obtain ⟨b, off, hAe, hcell⟩ := (HKw.out.1.below HBr.out).some_ (by omega)
        rw [hAe] at x6
        clear hAe
        obtain ⟨p, hp⟩ := getElem?_lt hlt
        obtain ⟨p1, p2⟩ := hcell k p hp
        have HT := Lib.hid (take_snoc h.P k p hp)
        have HSN := Lib.hid (keep_snoc h.s vb (h.P.take k) p)
        have hpc := (HKw.out.1.2.1 p (mem_of_at hp)).2.2
        obtain ⟨⟨n1, n2⟩, _, n5, n6⟩ := un_bound (HG.out.iP p (mem_of_at hp)) HG.out.s
        have hx : X.length ≤ 512 := by
          rw [HZr.out.1]
          have := List.length_filter_le (fun p => G h.s vb p.1) (h.P.take k)
          rw [List.length_take] at this
          unfold keepL
          omega
        have hgb := (cut_bd HG.out vb (k + 1) 0).2.1
        obtain ⟨pi, pc⟩ := p
        simp only at p1 p2 HSN hpc n1 n2
        have hlb := block_lt_of_cell p1
        simp only at hlb
        clear hcell hp
        by_cases hg : vb < un h.s pi
        · have d2 : decide (un h.s pi ≤ vb) = false := by simp; omega
          have HS1 := Lib.hid (HSN.out.1 hg)
          clear hg HSN hgb
          go_wp2_with fail
          go_quiet ((go_at_call 80; exact stays rfl (refunits_yes _ _ _ HG.out.s (by assumption) (by assumption))))
          go_wp2_with fail
          have HXq := Lib.hid (fun (n : Nat) (o : Obj) => show (Box ((wr.drewN n).alloc o) w.heap.size (.int .i64 h.k) (.int .i64 h.s) (.int .i64 h.z) (.int .u64 h.zc) (.int .u64 h.ct) (.int .i64 h.sm) (.slice A h.P.length c) (.slice B h.Q.length d) ∧ Box ((wr.drewN n).alloc o) (w.heap.size + 1) (.int .i64 0) (.int .i64 0) (.int .i64 0) (.int .u64 0) (.int .u64 0) (.int .i64 0) (.slice none 0 0) (.slice none 0 0) ∧ Box ((wr.drewN n).alloc o) gO (.int .i64 h.k) (.int .i64 h.s) (.int .i64 vb) (.int .u64 Z) (.int .u64 h.ct) (.int .i64 h.sm) (.slice A1 X.length c1) (.slice none 0 0)) from ⟨(HXr.out.1.alloc o), (HXr.out.2.1.alloc o), (HXr.out.2.2.alloc o)⟩)
          have HW6 := Lib.hid (fun (n : Nat) (o : Obj) (w6 : World) (hg6 : World.grownBy ((wr.drewN n).alloc o) w6 (Value.slice A1 X.length c1).ownBlock) => show (Box w6 w.heap.size (.int .i64 h.k) (.int .i64 h.s) (.int .i64 h.z) (.int .u64 h.zc) (.int .u64 h.ct) (.int .i64 h.sm) (.slice A h.P.length c) (.slice B h.Q.length d) ∧ Box w6 (w.heap.size + 1) (.int .i64 0) (.int .i64 0) (.int .i64 0) (.int .u64 0) (.int .u64 0) (.int .i64 0) (.slice none 0 0) (.slice none 0 0) ∧ Box w6 gO (.int .i64 h.k) (.int .i64 h.s) (.int .i64 vb) (.int .u64 Z) (.int .u64 h.ct) (.int .i64 h.sm) (.slice A1 X.length c1) (.slice none 0 0)) ∧ w2.heap.size ≤ w6.heap.size ∧ Below w.heap.size w w6 from ⟨⟨(HXq.out n o).1.grown hg6 (own_ne_ HOr.out (by have := HLg.out; omega)), (HXq.out n o).2.1.grown hg6 (own_ne_ HOr.out (by have := HLg.out; omega)), (HXq.out n o).2.2.grown hg6 (own_ne_ HOr.out (by have := HLg.out; omega))⟩, by have h1 := hg6.size; have h2 := HSr.out; simp at h1; omega, ((below_drewN HBr.out n).alloc (by have := HBr.out.size; exact this) o).grown hg6 (by have h1 := HBr.out.size; simp; omega) (fun j hj => by have := (HOr.out.lt j hj).1; have := HLg.out; have := HBs.out; omega)⟩)
          have hy6 : ∀ (n : Nat) (o : Obj), ((wr.drewN n).alloc o).cell? ⟨gO, 6, none⟩ = some (.slice A1 X.length c1) := fun n o => (HXq.out n o).2.2.cells.2.2.2.2.2.2.1
          go_region_law (refine step_app_b rfl (.tmp 60) (.tmp 66) rfl w2.heap.size _ _ _ X rfl (HOr.out.alloc _) _ rfl (pi, pc) (new_twoB _ _ _ _).1 (new_twoB _ _ _ _).2 (by omega) (by have := HSr.out; simp; omega) ?_; intro A6 c6 w6 ho6 hg6; have h6 := HW6.out _ _ w6 hg6; have HO6 := Lib.hid ho6; have H6 := Lib.hid h6; obtain ⟨z0, z1, z2, z3, z4, z5, z6, z7⟩ := h6.1.2.2.cells; obtain ⟨e0, e1, e2, e3, e4, e5, e6, e7⟩ := h6.1.2.2.frozen; have l6 := h6.1.2.2.lt; clear ho6 hg6 h6)
          all_goals (go_wp2_with fail)
          all_goals
            have HN6 := Lib.hid (show Sw1 h A B c d vb w w2 gO (k + 1) (w6.setCell ⟨gO, 6, none⟩ (.slice A6 (X.length + 1) c6)) from ⟨A6, c6, X ++ [(pi, pc)], Z, by rw [HT.out, HS1.out.1, ← HZr.out.1], by rw [HT.out, HS1.out.2]; exact HZr.out.2, by rw [List.length_append]; exact ⟨H6.out.1.1.off (by have := HLg.out; omega) 6 _, H6.out.1.2.1.off (by have := HLg.out; omega) 6 _, H6.out.1.2.2.set6 _⟩, by rw [List.length_append]; exact own_set HO6.out (by have := HLg.out; omega) _ _, by have := H6.out.2.1; simpa [World.setCell] using this, H6.out.2.2.setCell (p := ⟨gO, 6, none⟩) (by have := HLg.out; simp; omega) _⟩)
            go_roundw
            case rel => first | exact ⟨k + 1, by omega, by go_num, HN6⟩ | ((repeat apply Exists.intro); exact ⟨⟨k + 1, by omega, by go_num, HN6⟩, rfl⟩)
            case measure => simp [intOf]; omega
        · have d2 : decide (un h.s pi ≤ vb) = true := by simp; omega
          have HS1 := Lib.hid (HSN.out.2 hg)
          have hsum : Z + pc ≤ 18446744073709551615 := by
            rw [HT.out, HS1.out.2] at hgb
            have := HZr.out.2
            omega
          clear hg HSN hgb
          have HN6 := Lib.hid (fun (n : Nat) => show Sw1 h A B c d vb w w2 gO (k + 1) ((wr.drewN n).setCell ⟨gO, 3, none⟩ (.int .u64 (Z + pc))) from ⟨A1, c1, X, Z + pc, by rw [HT.out, HS1.out.1]; exact HZr.out.1, by rw [HT.out, HS1.out.2]; have := HZr.out.2; omega, ⟨Box.off (W := wr.drewN n) HXr.out.1 (by have := HLg.out; omega) 3 _, Box.off (W := wr.drewN n) HXr.out.2.1 (by have := HLg.out; omega) 3 _, Box.set3 (W := wr.drewN n) HXr.out.2.2 _⟩, own_set (w := wr.drewN n) HOr.out (by have := HLg.out; omega) _ _, by have := HSr.out; simpa [World.setCell] using this, (below_drewN HBr.out n).setCell (p := ⟨gO, 3, none⟩) (by have := HLg.out; simp; omega) _⟩)
          go_wp2_with fail
          go_quiet ((go_at_call 80; exact stays rfl (refunits_yes _ _ _ HG.out.s (by assumption) (by assumption))))
          go_wp2_with fail
          go_region_with (fail)
          all_goals (go_wp2_with fail)
          all_goals
            first | exact ⟨⟨k + 1, by omega, by go_num, Lib.hid (HN6.out _)⟩, by simp [intOf]; omega⟩ | (refine ⟨?_, by simp [intOf]; omega⟩; (repeat apply Exists.intro); exact ⟨⟨k + 1, by omega, by go_num, Lib.hid (HN6.out _)⟩, rfl⟩) | (go_roundw; case rel => ((repeat apply Exists.intro); exact ⟨⟨k + 1, by omega, by go_num, Lib.hid (HN6.out _)⟩, rfl⟩); case measure => simp [intOf]; omega)
      · obtain rfl : k = h.P.length := by omega
        have hki : ¬ ((h.P.length : Int) < (h.P.length : Int)) := by omega
        have hXX := HZr.out
        rw [List.take_length] at hXX
        have hwX : ∀ p ∈ X, Wb p := by rw [hXX.1]; exact fun p hp => HKw.out.1.2.1 p (List.mem_filter.1 hp).1
        have hlX : X.length ≤ 512 := by rw [hXX.1]; have := List.length_filter_le (fun p => G h.s vb p.1) h.P; unfold keepL; omega
        obtain ⟨wA, hwA⟩ : ∃ W, W = wr := ⟨_, rfl⟩
        subst hwA
        have hbkA := own_bk HOr.out hwX (by omega)
        have HKA := Lib.hid hbkA
        have HXL := Lib.hid hbkA.lt_
        have HXN := Lib.hid (show ∀ a, A1 = some a → a.block ≠ gO from fun a ha => by have h1 := (HOr.out.lt a.block (by rw [ha]; rfl)).1; have := HLg.out; omega)
        have HNA := Lib.hid (show NewA w A1 from fun a ha => by have h1 := (HOr.out.lt a.block (by rw [ha]; rfl)).1; have := HLg.out; omega)
        have HXG := Lib.hid (show ∀ a, A1 = some a → a.block ≠ w.heap.size + 1 from fun a ha => by have h1 := (HOr.out.lt a.block (by rw [ha]; rfl)).1; have := HLg.out; omega)
        obtain ⟨Z0, hZ0⟩ : ∃ z, z = Z := ⟨_, rfl⟩
        subst hZ0
        have HZ0 := Lib.hid (show Z0 = h.zc + goneN h.s vb h.P from hXX.2)
        have HXX := Lib.hid hXX.1
        have HXA := HXr
        have HBA := HBr
        have HSA := HSr
        have HLA := Lib.hid (show gO < wA.heap.size from HXr.out.2.2.lt)
        have HLg2 := HLg
        clear hXX hwX hlX hbkA HZr HOr
        go_wp2_with fail
        go_loopw [9] (fun i wr => ∃ k : Nat, k ≤ h.Q.length ∧ i = .int .i64 k ∧ Hid (Sw2 h A B c d vb w wA gO A1 c1 X Z0 k wr)) (fun i _ => h.Q.length - (intOf i).toNat)
        case atStart => exact ⟨0, by omega, rfl, Lib.hid ⟨none, 0, [], Z0, rfl, by show Z0 = Z0 + cw _ []; rw [cw_nil]; omega, HXA.out, World.ownsRow_nil _ _ _ _, Nat.le_refl _, HBA.out, HKA.out⟩⟩
        case round =>
          obtain ⟨k, hk, rfl, HR⟩ := hrel
          obtain ⟨B1, d1, Y, Z, hX, hZ, hbx, hown, hsz, hb, hBX⟩ := HR.out
          have HXr := Lib.hid hbx
          have HOr := Lib.hid hown
          have HBr := Lib.hid hb
          have HZr := Lib.hid (And.intro hX hZ)
          have HSr := Lib.hid hsz
          have HKr := Lib.hid hBX
          have hzb : 0 ≤ Z ∧ Z ≤ 18446744073709551615 := by rw [hZ]; exact ⟨by have := (cut_bd HG.out vb 0 k).2.2.1; have := HZ0.out; omega, by have := (cut_bd HG.out vb 0 k).2.2.2; have := HZ0.out; omega⟩
          clear hX hZ hown hb hsz HR hBX
          obtain ⟨x0, x1, x2, x3, x4, x5, x6, x7⟩ := hbx.1.cells
          obtain ⟨y0, y1, y2, y3, y4, y5, y6, y7⟩ := hbx.2.2.cells
          obtain ⟨f0, f1, f2, f3, f4, f5, f6, f7⟩ := hbx.2.2.frozen
          have l0 := hbx.1.lt
          have l2 := hbx.2.2.lt
          clear hbx
          by_cases hlt : k < h.Q.length
          · have hki : (k : Int) < (h.Q.length : Int) := by omega
            obtain ⟨b, off, hAe, hcell⟩ := (HKw.out.2.below HBr.out).some_ (by omega)
            rw [hAe] at x7
            clear hAe
            obtain ⟨p, hp⟩ := getElem?_lt hlt
            obtain ⟨p1, p2⟩ := hcell k p hp
            have HT := Lib.hid (take_snoc h.Q k p hp)
            have HSN := Lib.hid (keep_snoc h.s vb (h.Q.take k) p)
            have hpc := (HKw.out.2.2.1 p (mem_of_at hp)).2.2
            obtain ⟨⟨n1, n2⟩, _, n5, n6⟩ := un_bound (HG.out.iQ p (mem_of_at hp)) HG.out.s
            have hx : Y.length ≤ 512 := by
              rw [HZr.out.1]
              have := List.length_filter_le (fun p => G h.s vb p.1) (h.Q.take k)
              rw [List.length_take] at this
              unfold keepL
              omega
            have hgb : Z0 + goneN h.s vb (h.Q.take (k + 1)) ≤ 18446744073709551615 := by have := (cut_bd HG.out vb 0 (k + 1)).2.2.2; have := HZ0.out; omega
            obtain ⟨pi, pc⟩ := p
            simp only at p1 p2 HSN hpc n1 n2
            have hlb := block_lt_of_cell p1
            simp only at hlb
            clear hcell hp
            by_cases hg : vb < un h.s pi
            · have d2 : decide (un h.s pi ≤ vb) = false := by simp; omega
              have HS1 := Lib.hid (HSN.out.1 hg)
              clear hg HSN hgb
              go_wp2_with fail
              go_quiet ((go_at_call 80; exact stays rfl (refunits_yes _ _ _ HG.out.s (by assumption) (by assumption))))
              go_wp2_with fail
              have HXq := Lib.hid (fun (n : Nat) (o : Obj) => show (Box ((wr.drewN n).alloc o) w.heap.size (.int .i64 h.k) (.int .i64 h.s) (.int .i64 h.z) (.int .u64 h.zc) (.int .u64 h.ct) (.int .i64 h.sm) (.slice A h.P.length c) (.slice B h.Q.length d) ∧ Box ((wr.drewN n).alloc o) (w.heap.size + 1) (.int .i64 0) (.int .i64 0) (.int .i64 0) (.int .u64 0) (.int .u64 0) (.int .i64 0) (.slice none 0 0) (.slice none 0 0) ∧ Box ((wr.drewN n).alloc o) gO (.int .i64 h.k) (.int .i64 h.s) (.int .i64 vb) (.int .u64 Z) (.int .u64 h.ct) (.int .i64 h.sm) (.slice A1 X.length c1) (.slice B1 Y.length d1)) from ⟨(HXr.out.1.alloc o), (HXr.out.2.1.alloc o), (HXr.out.2.2.alloc o)⟩)
              have HW6 := Lib.hid (fun (n : Nat) (o : Obj) (w6 : World) (hg6 : World.grownBy ((wr.drewN n).alloc o) w6 (Value.slice B1 Y.length d1).ownBlock) => show (Box w6 w.heap.size (.int .i64 h.k) (.int .i64 h.s) (.int .i64 h.z) (.int .u64 h.zc) (.int .u64 h.ct) (.int .i64 h.sm) (.slice A h.P.length c) (.slice B h.Q.length d) ∧ Box w6 (w.heap.size + 1) (.int .i64 0) (.int .i64 0) (.int .i64 0) (.int .u64 0) (.int .u64 0) (.int .i64 0) (.slice none 0 0) (.slice none 0 0) ∧ Box w6 gO (.int .i64 h.k) (.int .i64 h.s) (.int .i64 vb) (.int .u64 Z) (.int .u64 h.ct) (.int .i64 h.sm) (.slice A1 X.length c1) (.slice B1 Y.length d1)) ∧ wA.heap.size ≤ w6.heap.size ∧ Below w.heap.size w w6 ∧ Bk w6 A1 X from ⟨⟨(HXq.out n o).1.grown hg6 (own_ne_ HOr.out (by have := HLg.out; omega)), (HXq.out n o).2.1.grown hg6 (own_ne_ HOr.out (by have := HLg.out; omega)), (HXq.out n o).2.2.grown hg6 (own_ne_ HOr.out (by have := HLg.out; omega))⟩, by have h1 := hg6.size; have h2 := HSr.out; simp at h1; omega, ((below_drewN HBr.out n).alloc (by have := HBr.out.size; exact this) o).grown hg6 (by have h1 := HBr.out.size; simp; omega) (fun j hj => by have := (HOr.out.lt j hj).1; have := HLg.out; have := HBs.out; omega), ((HKr.out.drewN n).below ((Below.refl _ _).alloc (Nat.le_refl _) o)).grown hg6 (by rcases HXL.out with h0 | h0; exact .inl h0; exact .inr fun a ha => own_ne_ HOr.out (h0 a ha))⟩)
              have hy7 : ∀ (n : Nat) (o : Obj), ((wr.drewN n).alloc o).cell? ⟨gO, 7, none⟩ = some (.slice B1 Y.length d1) := fun n o => (HXq.out n o).2.2.cells.2.2.2.2.2.2.2
              go_region_law (refine step_app_b rfl (.tmp 98) (.tmp 104) rfl wA.heap.size _ _ _ Y rfl (HOr.out.alloc _) _ rfl (pi, pc) (new_twoB _ _ _ _).1 (new_twoB _ _ _ _).2 (by omega) (by have := HSr.out; simp; omega) ?_; intro A6 c6 w6 ho6 hg6; have h6 := HW6.out _ _ w6 hg6; have HO6 := Lib.hid ho6; have H6 := Lib.hid h6; obtain ⟨z0, z1, z2, z3, z4, z5, z6, z7⟩ := h6.1.2.2.cells; obtain ⟨e0, e1, e2, e3, e4, e5, e6, e7⟩ := h6.1.2.2.frozen; have l6 := h6.1.2.2.lt; clear ho6 hg6 h6)
              all_goals (go_wp2_with fail)
              all_goals
                have HN6 := Lib.hid (show Sw2 h A B c d vb w wA gO A1 c1 X Z0 (k + 1) (w6.setCell ⟨gO, 7, none⟩ (.slice A6 (Y.length + 1) c6)) from ⟨A6, c6, Y ++ [(pi, pc)], Z, by rw [HT.out, HS1.out.1, ← HZr.out.1], by rw [HT.out, HS1.out.2]; exact HZr.out.2, by rw [List.length_append]; exact ⟨H6.out.1.1.off (by have := HLg.out; omega) 7 _, H6.out.1.2.1.off (by have := HLg.out; omega) 7 _, H6.out.1.2.2.set7 _⟩, by rw [List.length_append]; exact own_set HO6.out (by have := HLg.out; omega) _ _, by have := H6.out.2.1; simpa [World.setCell] using this, H6.out.2.2.1.setCell (p := ⟨gO, 7, none⟩) (by have := HLg.out; simp; omega) _, H6.out.2.2.2.offg (by rcases HXL.out with h0 | h0; exact .inl h0; exact .inr fun a ha => HXN.out a ha) _ _⟩)
                go_roundw
                case rel => first | exact ⟨k + 1, by omega, by go_num, HN6⟩ | ((repeat apply Exists.intro); exact ⟨⟨k + 1, by omega, by go_num, HN6⟩, rfl⟩)
                case measure => simp [intOf]; omega
            · have d2 : decide (un h.s pi ≤ vb) = true := by simp; omega
              have HS1 := Lib.hid (HSN.out.2 hg)
              have hsum : Z + pc ≤ 18446744073709551615 := by
                rw [HT.out, HS1.out.2] at hgb
                have := HZr.out.2
                omega
              clear hg HSN hgb
              have HN6 := Lib.hid (fun (n : Nat) => show Sw2 h A B c d vb w wA gO A1 c1 X Z0 (k + 1) ((wr.drewN n).setCell ⟨gO, 3, none⟩ (.int .u64 (Z + pc))) from ⟨B1, d1, Y, Z + pc, by rw [HT.out, HS1.out.1]; exact HZr.out.1, by rw [HT.out, HS1.out.2]; have := HZr.out.2; omega, ⟨Box.off (W := wr.drewN n) HXr.out.1 (by have := HLg.out; omega) 3 _, Box.off (W := wr.drewN n) HXr.out.2.1 (by have := HLg.out; omega) 3 _, Box.set3 (W := wr.drewN n) HXr.out.2.2 _⟩, own_set (w := wr.drewN n) HOr.out (by have := HLg.out; omega) _ _, by have := HSr.out; simpa [World.setCell] using this, (below_drewN HBr.out n).setCell (p := ⟨gO, 3, none⟩) (by have := HLg.out; simp; omega) _, (HKr.out.drewN n).offg (by rcases HXL.out with h0 | h0; exact .inl h0; exact .inr fun a ha => HXN.out a ha) _ _⟩)
              go_wp2_with fail
              go_quiet ((go_at_call 80; exact stays rfl (refunits_yes _ _ _ HG.out.s (by assumption) (by assumption))))
              go_wp2_with fail
              go_region_with (fail)
              all_goals (go_wp2_with fail)
              all_goals
                first | exact ⟨⟨k + 1, by omega, by go_num, Lib.hid (HN6.out _)⟩, by simp [intOf]; omega⟩ | (refine ⟨?_, by simp [intOf]; omega⟩; (repeat apply Exists.intro); exact ⟨⟨k + 1, by omega, by go_num, Lib.hid (HN6.out _)⟩, rfl⟩) | (go_roundw; case rel => ((repeat apply Exists.intro); exact ⟨⟨k + 1, by omega, by go_num, Lib.hid (HN6.out _)⟩, rfl⟩); case measure => simp [intOf]; omega)
          · obtain rfl : k = h.Q.length := by omega
            have hki : ¬ ((h.Q.length : Int) < (h.Q.length : Int)) := by omega
            have hYY := HZr.out
            rw [List.take_length] at hYY
            have hwY : ∀ p ∈ Y, Wb p := by rw [hYY.1]; exact fun p hp => HKw.out.2.2.1 p (List.mem_filter.1 hp).1
            have hlY : Y.length ≤ 512 := by rw [hYY.1]; have := List.length_filter_le (fun p => G h.s vb p.1) h.Q; unfold keepL; omega
            have HKB := Lib.hid (own_bk HOr.out hwY (by omega))
            have hNB : ∀ a, B1 = some a → w.heap.size + 1 < a.block := fun a ha => by have h1 := (HOr.out.lt a.block (by rw [ha]; rfl)).1; have := HLg.out; have := HLA.out; omega
            have HRR := Lib.hid (show swF h u = ⟨h.k, h.s, vb, Z, h.ct, h.sm, X, Y⟩ from by unfold swF; rw [HVV.out]; exact HV.eq rfl rfl rfl (by show h.zc + goneN h.s vb h.P + goneN h.s vb h.Q = Z; rw [hYY.2, HZ0.out]) rfl rfl HXX.out.symm hYY.1.symm)
            have HE := Lib.hid (show RetC w (swF h u) (.returned (.agg #[.int .i64 h.k, .int .i64 h.s, .int .i64 vb, .int .u64 Z, .int .u64 h.ct, .int .i64 h.sm, .slice A1 X.length c1, .slice B1 Y.length d1])) (set8 wr (w.heap.size + 1) (.int .i64 h.k) (.int .i64 h.s) (.int .i64 vb) (.int .u64 Z) (.int .u64 h.ct) (.int .i64 h.sm) (.slice A1 X.length c1) (.slice B1 Y.length d1)) from by
              rw [HRR.out]
              exact ⟨A1, B1, c1, d1, rfl, HKr.out.set8 HXG.out _ _ _ _ _ _ _ _, HKB.out.set8 (fun a ha => by have := hNB a ha; omega) _ _ _ _ _ _ _ _, below_set8 HBr.out (by omega) _ _ _ _ _ _ _ _, HNA.out, fun a ha => by have := hNB a ha; omega⟩)
            have HF := Lib.hid (HXr.out.2.1.put8 (.int .i64 h.k) (.int .i64 h.s) (.int .i64 vb) (.int .u64 Z) (.int .u64 h.ct) (.int .i64 h.sm) (.slice A1 X.length c1) (.slice B1 Y.length d1))
            obtain ⟨z0, z1, z2, z3, z4, z5, z6, z7⟩ := HXr.out.2.1.cells
            obtain ⟨g0, g1, g2, g3, g4, g5, g6, g7⟩ := HXr.out.2.1.frozen
            have l3 := HXr.out.2.1.lt
            clear hYY hwY hlY hNB f0 f1 f2 f3 f4 f5 f6 f7
            go_wp2_with fail
            clear x0 x1 x2 x3 x4 x5 x6 x7 y0 y1 y2 y3 y4 y5 y6 y7 z0 z1 z2 z3 z4 z5 z6 z7 g0 g1 g2 g3 g4 g5 g6 g7 l0 l2 l3
            generalize hW : ((((((((wr.setCell ⟨w.heap.size + 1, 0, none⟩ (.int .i64 h.k)).setCell ⟨w.heap.size + 1, 1, none⟩ (.int .i64 h.s)).setCell ⟨w.heap.size + 1, 2, none⟩ (.int .i64 vb)).setCell ⟨w.heap.size + 1, 3, none⟩ (.int .u64 Z)).setCell ⟨w.heap.size + 1, 4, none⟩ (.int .u64 h.ct)).setCell ⟨w.heap.size + 1, 5, none⟩ (.int .i64 h.sm)).setCell ⟨w.heap.size + 1, 6, none⟩ (.slice A1 X.length c1)).setCell ⟨w.heap.size + 1, 7, none⟩ (.slice B1 Y.length d1)) = w9
            have hW' : set8 wr (w.heap.size + 1) (.int .i64 h.k) (.int .i64 h.s) (.int .i64 vb) (.int .u64 Z) (.int .u64 h.ct) (.int .i64 h.sm) (.slice A1 X.length c1) (.slice B1 Y.length d1) = w9 := hW
            rw [hW'] at HE HF
            obtain ⟨z0, z1, z2, z3, z4, z5, z6, z7⟩ := HF.out.cells
            exact bodyPost_ret (v := .agg #[.int .i64 h.k, .int .i64 h.s, .int .i64 vb, .int .u64 Z, .int .u64 h.ct, .int .i64 h.sm, .slice A1 X.length c1, .slice B1 Y.length d1]) (by simp [results, Try.results115, go_sem, z0, z1, z2, z3, z4, z5, z6, z7]) rfl HE.out
  · have d1 : decide (va < vb) = false := by simpa using hab
    obtain rfl : va = v := by omega
    clear hab hmax
    go_wp2_with fail
    have hw : Below w1.heap.size w1 (w1.alloc (.cells #[.int .i64 h.k, .int .i64 h.s, .int .i64 va, .int .u64 h.zc, .int .u64 h.ct, .int .i64 h.sm, .slice none 0 0, .slice none 0 0] 25)) := (Below.refl _ _).alloc (Nat.le_refl _) _
    have HX2 := Lib.hid (And.intro (HX1.out.1.below hw) (And.intro (HX1.out.2.below hw) (Box.new w1 (.int .i64 h.k) (.int .i64 h.s) (.int .i64 va) (.int .u64 h.zc) (.int .u64 h.ct) (.int .i64 h.sm) (.slice none 0 0) (.slice none 0 0))))
    have HB2 := Lib.hid (HB1.out.trans (hw.mono HB1.out.size))
    have HLg := Lib.hid (show w.heap.size + 1 < w1.heap.size ∧ w1.heap.size < (w1.alloc (.cells #[.int .i64 h.k, .int .i64 h.s, .int .i64 va, .int .u64 h.zc, .int .u64 h.ct, .int .i64 h.sm, .slice none 0 0, .slice none 0 0] 25)).heap.size from ⟨HX1.out.2.lt, by simp⟩)
    clear x0 x1 x2 x3 x4 x5 x6 x7 l0 hw HX1 HK1 HB1
    obtain ⟨gO, hgO⟩ : ∃ g, w1.heap.size = g := ⟨_, rfl⟩
    rw [hgO] at HX2 HLg ⊢
    clear hgO
    generalize w1.alloc (.cells #[.int .i64 h.k, .int .i64 h.s, .int .i64 va, .int .u64 h.zc, .int .u64 h.ct, .int .i64 h.sm, .slice none 0 0, .slice none 0 0] 25) = w2 at *
    have HBs := Lib.hid HB2.out.size
    go_loopw [8] (fun i wr => ∃ k : Nat, k ≤ h.P.length ∧ i = .int .i64 k ∧ Hid (Sw1 h A B c d va w w2 gO k wr)) (fun i _ => h.P.length - (intOf i).toNat)
    case atStart => exact ⟨0, by omega, rfl, Lib.hid ⟨none, 0, [], h.zc, rfl, by show h.zc = h.zc + cw _ []; rw [cw_nil]; omega, HX2.out, World.ownsRow_nil _ _ _ _, Nat.le_refl _, HB2.out⟩⟩
    case round =>
      obtain ⟨k, hk, rfl, HR⟩ := hrel
      obtain ⟨A1, c1, X, Z, hX, hZ, hbx, hown, hsz, hb⟩ := HR.out
      have HXr := Lib.hid hbx
      have HOr := Lib.hid hown
      have HBr := Lib.hid hb
      have HZr := Lib.hid (And.intro hX hZ)
      have HSr := Lib.hid hsz
      have hzb : 0 ≤ Z ∧ Z ≤ 18446744073709551615 := by rw [hZ]; exact ⟨(cut_bd HG.out va k 0).1, (cut_bd HG.out va k 0).2.1⟩
      clear hX hZ hown hb hsz HR
      obtain ⟨x0, x1, x2, x3, x4, x5, x6, x7⟩ := hbx.1.cells
      obtain ⟨y0, y1, y2, y3, y4, y5, y6, y7⟩ := hbx.2.2.cells
      obtain ⟨f0, f1, f2, f3, f4, f5, f6, f7⟩ := hbx.2.2.frozen
      have l0 := hbx.1.lt
      have l2 := hbx.2.2.lt
      clear hbx
      by_cases hlt : k < h.P.length
      · have hki : (k : Int) < (h.P.length : Int) := by omega
        obtain ⟨b, off, hAe, hcell⟩ := (HKw.out.1.below HBr.out).some_ (by omega)
        rw [hAe] at x6
        clear hAe
        obtain ⟨p, hp⟩ := getElem?_lt hlt
        obtain ⟨p1, p2⟩ := hcell k p hp
        have HT := Lib.hid (take_snoc h.P k p hp)
        have HSN := Lib.hid (keep_snoc h.s va (h.P.take k) p)
        have hpc := (HKw.out.1.2.1 p (mem_of_at hp)).2.2
        obtain ⟨⟨n1, n2⟩, _, n5, n6⟩ := un_bound (HG.out.iP p (mem_of_at hp)) HG.out.s
        have hx : X.length ≤ 512 := by
          rw [HZr.out.1]
          have := List.length_filter_le (fun p => G h.s va p.1) (h.P.take k)
          rw [List.length_take] at this
          unfold keepL
          omega
        have hgb := (cut_bd HG.out va (k + 1) 0).2.1
        obtain ⟨pi, pc⟩ := p
        simp only at p1 p2 HSN hpc n1 n2
        have hlb := block_lt_of_cell p1
        simp only at hlb
        clear hcell hp
        by_cases hg : va < un h.s pi
        · have d2 : decide (un h.s pi ≤ va) = false := by simp; omega
          have HS1 := Lib.hid (HSN.out.1 hg)
          clear hg HSN hgb
          go_wp2_with fail
          go_quiet ((go_at_call 80; exact stays rfl (refunits_yes _ _ _ HG.out.s (by assumption) (by assumption))))
          go_wp2_with fail
          have HXq := Lib.hid (fun (n : Nat) (o : Obj) => show (Box ((wr.drewN n).alloc o) w.heap.size (.int .i64 h.k) (.int .i64 h.s) (.int .i64 h.z) (.int .u64 h.zc) (.int .u64 h.ct) (.int .i64 h.sm) (.slice A h.P.length c) (.slice B h.Q.length d) ∧ Box ((wr.drewN n).alloc o) (w.heap.size + 1) (.int .i64 0) (.int .i64 0) (.int .i64 0) (.int .u64 0) (.int .u64 0) (.int .i64 0) (.slice none 0 0) (.slice none 0 0) ∧ Box ((wr.drewN n).alloc o) gO (.int .i64 h.k) (.int .i64 h.s) (.int .i64 va) (.int .u64 Z) (.int .u64 h.ct) (.int .i64 h.sm) (.slice A1 X.length c1) (.slice none 0 0)) from ⟨(HXr.out.1.alloc o), (HXr.out.2.1.alloc o), (HXr.out.2.2.alloc o)⟩)
          have HW6 := Lib.hid (fun (n : Nat) (o : Obj) (w6 : World) (hg6 : World.grownBy ((wr.drewN n).alloc o) w6 (Value.slice A1 X.length c1).ownBlock) => show (Box w6 w.heap.size (.int .i64 h.k) (.int .i64 h.s) (.int .i64 h.z) (.int .u64 h.zc) (.int .u64 h.ct) (.int .i64 h.sm) (.slice A h.P.length c) (.slice B h.Q.length d) ∧ Box w6 (w.heap.size + 1) (.int .i64 0) (.int .i64 0) (.int .i64 0) (.int .u64 0) (.int .u64 0) (.int .i64 0) (.slice none 0 0) (.slice none 0 0) ∧ Box w6 gO (.int .i64 h.k) (.int .i64 h.s) (.int .i64 va) (.int .u64 Z) (.int .u64 h.ct) (.int .i64 h.sm) (.slice A1 X.length c1) (.slice none 0 0)) ∧ w2.heap.size ≤ w6.heap.size ∧ Below w.heap.size w w6 from ⟨⟨(HXq.out n o).1.grown hg6 (own_ne_ HOr.out (by have := HLg.out; omega)), (HXq.out n o).2.1.grown hg6 (own_ne_ HOr.out (by have := HLg.out; omega)), (HXq.out n o).2.2.grown hg6 (own_ne_ HOr.out (by have := HLg.out; omega))⟩, by have h1 := hg6.size; have h2 := HSr.out; simp at h1; omega, ((below_drewN HBr.out n).alloc (by have := HBr.out.size; exact this) o).grown hg6 (by have h1 := HBr.out.size; simp; omega) (fun j hj => by have := (HOr.out.lt j hj).1; have := HLg.out; have := HBs.out; omega)⟩)
          have hy6 : ∀ (n : Nat) (o : Obj), ((wr.drewN n).alloc o).cell? ⟨gO, 6, none⟩ = some (.slice A1 X.length c1) := fun n o => (HXq.out n o).2.2.cells.2.2.2.2.2.2.1
          go_region_law (refine step_app_b rfl (.tmp 60) (.tmp 66) rfl w2.heap.size _ _ _ X rfl (HOr.out.alloc _) _ rfl (pi, pc) (new_twoB _ _ _ _).1 (new_twoB _ _ _ _).2 (by omega) (by have := HSr.out; simp; omega) ?_; intro A6 c6 w6 ho6 hg6; have h6 := HW6.out _ _ w6 hg6; have HO6 := Lib.hid ho6; have H6 := Lib.hid h6; obtain ⟨z0, z1, z2, z3, z4, z5, z6, z7⟩ := h6.1.2.2.cells; obtain ⟨e0, e1, e2, e3, e4, e5, e6, e7⟩ := h6.1.2.2.frozen; have l6 := h6.1.2.2.lt; clear ho6 hg6 h6)
          all_goals (go_wp2_with fail)
          all_goals
            have HN6 := Lib.hid (show Sw1 h A B c d va w w2 gO (k + 1) (w6.setCell ⟨gO, 6, none⟩ (.slice A6 (X.length + 1) c6)) from ⟨A6, c6, X ++ [(pi, pc)], Z, by rw [HT.out, HS1.out.1, ← HZr.out.1], by rw [HT.out, HS1.out.2]; exact HZr.out.2, by rw [List.length_append]; exact ⟨H6.out.1.1.off (by have := HLg.out; omega) 6 _, H6.out.1.2.1.off (by have := HLg.out; omega) 6 _, H6.out.1.2.2.set6 _⟩, by rw [List.length_append]; exact own_set HO6.out (by have := HLg.out; omega) _ _, by have := H6.out.2.1; simpa [World.setCell] using this, H6.out.2.2.setCell (p := ⟨gO, 6, none⟩) (by have := HLg.out; simp; omega) _⟩)
            go_roundw
            case rel => first | exact ⟨k + 1, by omega, by go_num, HN6⟩ | ((repeat apply Exists.intro); exact ⟨⟨k + 1, by omega, by go_num, HN6⟩, rfl⟩)
            case measure => simp [intOf]; omega
        · have d2 : decide (un h.s pi ≤ va) = true := by simp; omega
          have HS1 := Lib.hid (HSN.out.2 hg)
          have hsum : Z + pc ≤ 18446744073709551615 := by
            rw [HT.out, HS1.out.2] at hgb
            have := HZr.out.2
            omega
          clear hg HSN hgb
          have HN6 := Lib.hid (fun (n : Nat) => show Sw1 h A B c d va w w2 gO (k + 1) ((wr.drewN n).setCell ⟨gO, 3, none⟩ (.int .u64 (Z + pc))) from ⟨A1, c1, X, Z + pc, by rw [HT.out, HS1.out.1]; exact HZr.out.1, by rw [HT.out, HS1.out.2]; have := HZr.out.2; omega, ⟨Box.off (W := wr.drewN n) HXr.out.1 (by have := HLg.out; omega) 3 _, Box.off (W := wr.drewN n) HXr.out.2.1 (by have := HLg.out; omega) 3 _, Box.set3 (W := wr.drewN n) HXr.out.2.2 _⟩, own_set (w := wr.drewN n) HOr.out (by have := HLg.out; omega) _ _, by have := HSr.out; simpa [World.setCell] using this, (below_drewN HBr.out n).setCell (p := ⟨gO, 3, none⟩) (by have := HLg.out; simp; omega) _⟩)
          go_wp2_with fail
          go_quiet ((go_at_call 80; exact stays rfl (refunits_yes _ _ _ HG.out.s (by assumption) (by assumption))))
          go_wp2_with fail
          go_region_with (fail)
          all_goals (go_wp2_with fail)
          all_goals
            first | exact ⟨⟨k + 1, by omega, by go_num, Lib.hid (HN6.out _)⟩, by simp [intOf]; omega⟩ | (refine ⟨?_, by simp [intOf]; omega⟩; (repeat apply Exists.intro); exact ⟨⟨k + 1, by omega, by go_num, Lib.hid (HN6.out _)⟩, rfl⟩) | (go_roundw; case rel => ((repeat apply Exists.intro); exact ⟨⟨k + 1, by omega, by go_num, Lib.hid (HN6.out _)⟩, rfl⟩); case measure => simp [intOf]; omega)
      · obtain rfl : k = h.P.length := by omega
        have hki : ¬ ((h.P.length : Int) < (h.P.length : Int)) := by omega
        have hXX := HZr.out
        rw [List.take_length] at hXX
        have hwX : ∀ p ∈ X, Wb p := by rw [hXX.1]; exact fun p hp => HKw.out.1.2.1 p (List.mem_filter.1 hp).1
        have hlX : X.length ≤ 512 := by rw [hXX.1]; have := List.length_filter_le (fun p => G h.s va p.1) h.P; unfold keepL; omega
        obtain ⟨wA, hwA⟩ : ∃ W, W = wr := ⟨_, rfl⟩
        subst hwA
        have hbkA := own_bk HOr.out hwX (by omega)
        have HKA := Lib.hid hbkA
        have HXL := Lib.hid hbkA.lt_
        have HXN := Lib.hid (show ∀ a, A1 = some a → a.block ≠ gO from fun a ha => by have h1 := (HOr.out.lt a.block (by rw [ha]; rfl)).1; have := HLg.out; omega)
        have HNA := Lib.hid (show NewA w A1 from fun a ha => by have h1 := (HOr.out.lt a.block (by rw [ha]; rfl)).1; have := HLg.out; omega)
        have HXG := Lib.hid (show ∀ a, A1 = some a → a.block ≠ w.heap.size + 1 from fun a ha => by have h1 := (HOr.out.lt a.block (by rw [ha]; rfl)).1; have := HLg.out; omega)
        obtain ⟨Z0, hZ0⟩ : ∃ z, z = Z := ⟨_, rfl⟩
        subst hZ0
        have HZ0 := Lib.hid (show Z0 = h.zc + goneN h.s va h.P from hXX.2)
        have HXX := Lib.hid hXX.1
        have HXA := HXr
        have HBA := HBr
        have HSA := HSr
        have HLA := Lib.hid (show gO < wA.heap.size from HXr.out.2.2.lt)
        have HLg2 := HLg
        clear hXX hwX hlX hbkA HZr HOr
        go_wp2_with fail
        go_loopw [9] (fun i wr => ∃ k : Nat, k ≤ h.Q.length ∧ i = .int .i64 k ∧ Hid (Sw2 h A B c d va w wA gO A1 c1 X Z0 k wr)) (fun i _ => h.Q.length - (intOf i).toNat)
        case atStart => exact ⟨0, by omega, rfl, Lib.hid ⟨none, 0, [], Z0, rfl, by show Z0 = Z0 + cw _ []; rw [cw_nil]; omega, HXA.out, World.ownsRow_nil _ _ _ _, Nat.le_refl _, HBA.out, HKA.out⟩⟩
        case round =>
          obtain ⟨k, hk, rfl, HR⟩ := hrel
          obtain ⟨B1, d1, Y, Z, hX, hZ, hbx, hown, hsz, hb, hBX⟩ := HR.out
          have HXr := Lib.hid hbx
          have HOr := Lib.hid hown
          have HBr := Lib.hid hb
          have HZr := Lib.hid (And.intro hX hZ)
          have HSr := Lib.hid hsz
          have HKr := Lib.hid hBX
          have hzb : 0 ≤ Z ∧ Z ≤ 18446744073709551615 := by rw [hZ]; exact ⟨by have := (cut_bd HG.out va 0 k).2.2.1; have := HZ0.out; omega, by have := (cut_bd HG.out va 0 k).2.2.2; have := HZ0.out; omega⟩
          clear hX hZ hown hb hsz HR hBX
          obtain ⟨x0, x1, x2, x3, x4, x5, x6, x7⟩ := hbx.1.cells
          obtain ⟨y0, y1, y2, y3, y4, y5, y6, y7⟩ := hbx.2.2.cells
          obtain ⟨f0, f1, f2, f3, f4, f5, f6, f7⟩ := hbx.2.2.frozen
          have l0 := hbx.1.lt
          have l2 := hbx.2.2.lt
          clear hbx
          by_cases hlt : k < h.Q.length
          · have hki : (k : Int) < (h.Q.length : Int) := by omega
            obtain ⟨b, off, hAe, hcell⟩ := (HKw.out.2.below HBr.out).some_ (by omega)
            rw [hAe] at x7
            clear hAe
            obtain ⟨p, hp⟩ := getElem?_lt hlt
            obtain ⟨p1, p2⟩ := hcell k p hp
            have HT := Lib.hid (take_snoc h.Q k p hp)
            have HSN := Lib.hid (keep_snoc h.s va (h.Q.take k) p)
            have hpc := (HKw.out.2.2.1 p (mem_of_at hp)).2.2
            obtain ⟨⟨n1, n2⟩, _, n5, n6⟩ := un_bound (HG.out.iQ p (mem_of_at hp)) HG.out.s
            have hx : Y.length ≤ 512 := by
              rw [HZr.out.1]
              have := List.length_filter_le (fun p => G h.s va p.1) (h.Q.take k)
              rw [List.length_take] at this
              unfold keepL
              omega
            have hgb : Z0 + goneN h.s va (h.Q.take (k + 1)) ≤ 18446744073709551615 := by have := (cut_bd HG.out va 0 (k + 1)).2.2.2; have := HZ0.out; omega
            obtain ⟨pi, pc⟩ := p
            simp only at p1 p2 HSN hpc n1 n2
            have hlb := block_lt_of_cell p1
            simp only at hlb
            clear hcell hp
            by_cases hg : va < un h.s pi
            · have d2 : decide (un h.s pi ≤ va) = false := by simp; omega
              have HS1 := Lib.hid (HSN.out.1 hg)
              clear hg HSN hgb
              go_wp2_with fail
              go_quiet ((go_at_call 80; exact stays rfl (refunits_yes _ _ _ HG.out.s (by assumption) (by assumption))))
              go_wp2_with fail
              have HXq := Lib.hid (fun (n : Nat) (o : Obj) => show (Box ((wr.drewN n).alloc o) w.heap.size (.int .i64 h.k) (.int .i64 h.s) (.int .i64 h.z) (.int .u64 h.zc) (.int .u64 h.ct) (.int .i64 h.sm) (.slice A h.P.length c) (.slice B h.Q.length d) ∧ Box ((wr.drewN n).alloc o) (w.heap.size + 1) (.int .i64 0) (.int .i64 0) (.int .i64 0) (.int .u64 0) (.int .u64 0) (.int .i64 0) (.slice none 0 0) (.slice none 0 0) ∧ Box ((wr.drewN n).alloc o) gO (.int .i64 h.k) (.int .i64 h.s) (.int .i64 va) (.int .u64 Z) (.int .u64 h.ct) (.int .i64 h.sm) (.slice A1 X.length c1) (.slice B1 Y.length d1)) from ⟨(HXr.out.1.alloc o), (HXr.out.2.1.alloc o), (HXr.out.2.2.alloc o)⟩)
              have HW6 := Lib.hid (fun (n : Nat) (o : Obj) (w6 : World) (hg6 : World.grownBy ((wr.drewN n).alloc o) w6 (Value.slice B1 Y.length d1).ownBlock) => show (Box w6 w.heap.size (.int .i64 h.k) (.int .i64 h.s) (.int .i64 h.z) (.int .u64 h.zc) (.int .u64 h.ct) (.int .i64 h.sm) (.slice A h.P.length c) (.slice B h.Q.length d) ∧ Box w6 (w.heap.size + 1) (.int .i64 0) (.int .i64 0) (.int .i64 0) (.int .u64 0) (.int .u64 0) (.int .i64 0) (.slice none 0 0) (.slice none 0 0) ∧ Box w6 gO (.int .i64 h.k) (.int .i64 h.s) (.int .i64 va) (.int .u64 Z) (.int .u64 h.ct) (.int .i64 h.sm) (.slice A1 X.length c1) (.slice B1 Y.length d1)) ∧ wA.heap.size ≤ w6.heap.size ∧ Below w.heap.size w w6 ∧ Bk w6 A1 X from ⟨⟨(HXq.out n o).1.grown hg6 (own_ne_ HOr.out (by have := HLg.out; omega)), (HXq.out n o).2.1.grown hg6 (own_ne_ HOr.out (by have := HLg.out; omega)), (HXq.out n o).2.2.grown hg6 (own_ne_ HOr.out (by have := HLg.out; omega))⟩, by have h1 := hg6.size; have h2 := HSr.out; simp at h1; omega, ((below_drewN HBr.out n).alloc (by have := HBr.out.size; exact this) o).grown hg6 (by have h1 := HBr.out.size; simp; omega) (fun j hj => by have := (HOr.out.lt j hj).1; have := HLg.out; have := HBs.out; omega), ((HKr.out.drewN n).below ((Below.refl _ _).alloc (Nat.le_refl _) o)).grown hg6 (by rcases HXL.out with h0 | h0; exact .inl h0; exact .inr fun a ha => own_ne_ HOr.out (h0 a ha))⟩)
              have hy7 : ∀ (n : Nat) (o : Obj), ((wr.drewN n).alloc o).cell? ⟨gO, 7, none⟩ = some (.slice B1 Y.length d1) := fun n o => (HXq.out n o).2.2.cells.2.2.2.2.2.2.2
              go_region_law (refine step_app_b rfl (.tmp 98) (.tmp 104) rfl wA.heap.size _ _ _ Y rfl (HOr.out.alloc _) _ rfl (pi, pc) (new_twoB _ _ _ _).1 (new_twoB _ _ _ _).2 (by omega) (by have := HSr.out; simp; omega) ?_; intro A6 c6 w6 ho6 hg6; have h6 := HW6.out _ _ w6 hg6; have HO6 := Lib.hid ho6; have H6 := Lib.hid h6; obtain ⟨z0, z1, z2, z3, z4, z5, z6, z7⟩ := h6.1.2.2.cells; obtain ⟨e0, e1, e2, e3, e4, e5, e6, e7⟩ := h6.1.2.2.frozen; have l6 := h6.1.2.2.lt; clear ho6 hg6 h6)
              all_goals (go_wp2_with fail)
              all_goals
                have HN6 := Lib.hid (show Sw2 h A B c d va w wA gO A1 c1 X Z0 (k + 1) (w6.setCell ⟨gO, 7, none⟩ (.slice A6 (Y.length + 1) c6)) from ⟨A6, c6, Y ++ [(pi, pc)], Z, by rw [HT.out, HS1.out.1, ← HZr.out.1], by rw [HT.out, HS1.out.2]; exact HZr.out.2, by rw [List.length_append]; exact ⟨H6.out.1.1.off (by have := HLg.out; omega) 7 _, H6.out.1.2.1.off (by have := HLg.out; omega) 7 _, H6.out.1.2.2.set7 _⟩, by rw [List.length_append]; exact own_set HO6.out (by have := HLg.out; omega) _ _, by have := H6.out.2.1; simpa [World.setCell] using this, H6.out.2.2.1.setCell (p := ⟨gO, 7, none⟩) (by have := HLg.out; simp; omega) _, H6.out.2.2.2.offg (by rcases HXL.out with h0 | h0; exact .inl h0; exact .inr fun a ha => HXN.out a ha) _ _⟩)
                go_roundw
                case rel => first | exact ⟨k + 1, by omega, by go_num, HN6⟩ | ((repeat apply Exists.intro); exact ⟨⟨k + 1, by omega, by go_num, HN6⟩, rfl⟩)
                case measure => simp [intOf]; omega
            · have d2 : decide (un h.s pi ≤ va) = true := by simp; omega
              have HS1 := Lib.hid (HSN.out.2 hg)
              have hsum : Z + pc ≤ 18446744073709551615 := by
                rw [HT.out, HS1.out.2] at hgb
                have := HZr.out.2
                omega
              clear hg HSN hgb
              have HN6 := Lib.hid (fun (n : Nat) => show Sw2 h A B c d va w wA gO A1 c1 X Z0 (k + 1) ((wr.drewN n).setCell ⟨gO, 3, none⟩ (.int .u64 (Z + pc))) from ⟨B1, d1, Y, Z + pc, by rw [HT.out, HS1.out.1]; exact HZr.out.1, by rw [HT.out, HS1.out.2]; have := HZr.out.2; omega, ⟨Box.off (W := wr.drewN n) HXr.out.1 (by have := HLg.out; omega) 3 _, Box.off (W := wr.drewN n) HXr.out.2.1 (by have := HLg.out; omega) 3 _, Box.set3 (W := wr.drewN n) HXr.out.2.2 _⟩, own_set (w := wr.drewN n) HOr.out (by have := HLg.out; omega) _ _, by have := HSr.out; simpa [World.setCell] using this, (below_drewN HBr.out n).setCell (p := ⟨gO, 3, none⟩) (by have := HLg.out; simp; omega) _, (HKr.out.drewN n).offg (by rcases HXL.out with h0 | h0; exact .inl h0; exact .inr fun a ha => HXN.out a ha) _ _⟩)
              go_wp2_with fail
              go_quiet ((go_at_call 80; exact stays rfl (refunits_yes _ _ _ HG.out.s (by assumption) (by assumption))))
              go_wp2_with fail
              go_region_with (fail)
              all_goals (go_wp2_with fail)
              all_goals
                first | exact ⟨⟨k + 1, by omega, by go_num, Lib.hid (HN6.out _)⟩, by simp [intOf]; omega⟩ | (refine ⟨?_, by simp [intOf]; omega⟩; (repeat apply Exists.intro); exact ⟨⟨k + 1, by omega, by go_num, Lib.hid (HN6.out _)⟩, rfl⟩) | (go_roundw; case rel => ((repeat apply Exists.intro); exact ⟨⟨k + 1, by omega, by go_num, Lib.hid (HN6.out _)⟩, rfl⟩); case measure => simp [intOf]; omega)
          · obtain rfl : k = h.Q.length := by omega
            have hki : ¬ ((h.Q.length : Int) < (h.Q.length : Int)) := by omega
            have hYY := HZr.out
            rw [List.take_length] at hYY
            have hwY : ∀ p ∈ Y, Wb p := by rw [hYY.1]; exact fun p hp => HKw.out.2.2.1 p (List.mem_filter.1 hp).1
            have hlY : Y.length ≤ 512 := by rw [hYY.1]; have := List.length_filter_le (fun p => G h.s va p.1) h.Q; unfold keepL; omega
            have HKB := Lib.hid (own_bk HOr.out hwY (by omega))
            have hNB : ∀ a, B1 = some a → w.heap.size + 1 < a.block := fun a ha => by have h1 := (HOr.out.lt a.block (by rw [ha]; rfl)).1; have := HLg.out; have := HLA.out; omega
            have HRR := Lib.hid (show swF h u = ⟨h.k, h.s, va, Z, h.ct, h.sm, X, Y⟩ from by unfold swF; rw [HVV.out]; exact HV.eq rfl rfl rfl (by show h.zc + goneN h.s va h.P + goneN h.s va h.Q = Z; rw [hYY.2, HZ0.out]) rfl rfl HXX.out.symm hYY.1.symm)
            have HE := Lib.hid (show RetC w (swF h u) (.returned (.agg #[.int .i64 h.k, .int .i64 h.s, .int .i64 va, .int .u64 Z, .int .u64 h.ct, .int .i64 h.sm, .slice A1 X.length c1, .slice B1 Y.length d1])) (set8 wr (w.heap.size + 1) (.int .i64 h.k) (.int .i64 h.s) (.int .i64 va) (.int .u64 Z) (.int .u64 h.ct) (.int .i64 h.sm) (.slice A1 X.length c1) (.slice B1 Y.length d1)) from by
              rw [HRR.out]
              exact ⟨A1, B1, c1, d1, rfl, HKr.out.set8 HXG.out _ _ _ _ _ _ _ _, HKB.out.set8 (fun a ha => by have := hNB a ha; omega) _ _ _ _ _ _ _ _, below_set8 HBr.out (by omega) _ _ _ _ _ _ _ _, HNA.out, fun a ha => by have := hNB a ha; omega⟩)
            have HF := Lib.hid (HXr.out.2.1.put8 (.int .i64 h.k) (.int .i64 h.s) (.int .i64 va) (.int .u64 Z) (.int .u64 h.ct) (.int .i64 h.sm) (.slice A1 X.length c1) (.slice B1 Y.length d1))
            obtain ⟨z0, z1, z2, z3, z4, z5, z6, z7⟩ := HXr.out.2.1.cells
            obtain ⟨g0, g1, g2, g3, g4, g5, g6, g7⟩ := HXr.out.2.1.frozen
            have l3 := HXr.out.2.1.lt
            clear hYY hwY hlY hNB f0 f1 f2 f3 f4 f5 f6 f7
            go_wp2_with fail
            clear x0 x1 x2 x3 x4 x5 x6 x7 y0 y1 y2 y3 y4 y5 y6 y7 z0 z1 z2 z3 z4 z5 z6 z7 g0 g1 g2 g3 g4 g5 g6 g7 l0 l2 l3
            generalize hW : ((((((((wr.setCell ⟨w.heap.size + 1, 0, none⟩ (.int .i64 h.k)).setCell ⟨w.heap.size + 1, 1, none⟩ (.int .i64 h.s)).setCell ⟨w.heap.size + 1, 2, none⟩ (.int .i64 va)).setCell ⟨w.heap.size + 1, 3, none⟩ (.int .u64 Z)).setCell ⟨w.heap.size + 1, 4, none⟩ (.int .u64 h.ct)).setCell ⟨w.heap.size + 1, 5, none⟩ (.int .i64 h.sm)).setCell ⟨w.heap.size + 1, 6, none⟩ (.slice A1 X.length c1)).setCell ⟨w.heap.size + 1, 7, none⟩ (.slice B1 Y.length d1)) = w9
            have hW' : set8 wr (w.heap.size + 1) (.int .i64 h.k) (.int .i64 h.s) (.int .i64 va) (.int .u64 Z) (.int .u64 h.ct) (.int .i64 h.sm) (.slice A1 X.length c1) (.slice B1 Y.length d1) = w9 := hW
            rw [hW'] at HE HF
            obtain ⟨z0, z1, z2, z3, z4, z5, z6, z7⟩ := HF.out.cells
            exact bodyPost_ret (v := .agg #[.int .i64 h.k, .int .i64 h.s, .int .i64 va, .int .u64 Z, .int .u64 h.ct, .int .i64 h.sm, .slice A1 X.length c1, .slice B1 Y.length d1]) (by simp [results, Try.results115, go_sem, z0, z1, z2, z3, z4, z5, z6, z7]) rfl HE.out
end Go.Proofs.Ytbibhjcmdehdbaa

/-! The document's Down and Widen. -/
namespace Go.Proofs.Ytbibhjcmdehdbaa
open Go.RowKit Go.Sort Go.Maps
set_option linter.unusedVariables false

theorem ref_down {h : HV} (o : Ok h) {t : Int} (ht : rightB t = true) (hle : t ≤ h.s) : swF (coarseH h t) h.z = downF h t := by
  unfold downF
  by_cases e : t = h.s
  · rw [if_pos e, e]
    have e1 : coarseH h h.s = h := HV.eq rfl rfl rfl rfl rfl rfl (by show tidy (mv h.s h.s h.P) = h.P; rw [mv_self, tidy_self o.aP o.pP]) (by show tidy (mv h.s h.s h.Q) = h.Q; rw [mv_self, tidy_self o.aQ o.pQ])
    rw [e1, sw_self o]
  · rw [if_neg e]
theorem Bk.ne_lt {w : World} {A : Option Addr} {l : List (Int × Int)} (h : Bk w A l) {g : Nat} (hg : w.heap.size ≤ g) : l.length = 0 ∨ ∀ a, A = some a → a.block ≠ g := h.lt_.imp id fun f a ha => by have := f a ha; omega
theorem cnt_bd {h : HV} (o : Ok h) : cnt h.P ≤ 18446744073709551615 ∧ cnt h.Q ≤ 18446744073709551615 := by
  have c1 := o.ct
  have c2 := o.big
  have c3 := o.zc
  have c4 := o.nP.cnt
  have c5 := o.nQ.cnt
  omega
set_option maxHeartbeats 4000000 in
set_option maxRecDepth 100000 in
theorem refdown_any (h : HV) (t : Int) (A B : Option Addr) (c d : Nat) (w : World) (hP : Bk w A h.P) (hQ : Bk w B h.Q) (o : Ok h) :
    Calls Try.prog 88 #[.agg #[.int .i64 h.k, .int .i64 h.s, .int .i64 h.z, .int .u64 h.zc, .int .u64 h.ct, .int .i64 h.sm, .slice A h.P.length c, .slice B h.Q.length d], .int .i64 t] w (RetH w (downO h t) (downE h.s t)) := by
  have hb0 := ((Below.refl w.heap.size w).alloc (Nat.le_refl _) (.cells #[.int .i64 h.k, .int .i64 h.s, .int .i64 h.z, .int .u64 h.zc, .int .u64 h.ct, .int .i64 h.sm, .slice A h.P.length c, .slice B h.Q.length d] 25)).alloc (by simp) (.cells #[.int .i64 0, .int .i64 0, .int .i64 0, .int .u64 0, .int .u64 0, .int .i64 0, .slice none 0 0, .slice none 0 0] 25)
  have bx0 := (Box.new w (.int .i64 h.k) (.int .i64 h.s) (.int .i64 h.z) (.int .u64 h.zc) (.int .u64 h.ct) (.int .i64 h.sm) (.slice A h.P.length c) (.slice B h.Q.length d)).alloc (.cells #[.int .i64 0, .int .i64 0, .int .i64 0, .int .u64 0, .int .u64 0, .int .i64 0, .slice none 0 0, .slice none 0 0] 25)
  have bx1 := Box.newAt (w.alloc (.cells #[.int .i64 h.k, .int .i64 h.s, .int .i64 h.z, .int .u64 h.zc, .int .u64 h.ct, .int .i64 h.sm, .slice A h.P.length c, .slice B h.Q.length d] 25)) (w.heap.size + 1) (by simp) (.int .i64 0) (.int .i64 0) (.int .i64 0) (.int .u64 0) (.int .u64 0) (.int .i64 0) (.slice none 0 0) (.slice none 0 0)
  have HX0 := Lib.hid (And.intro bx0 bx1)
  have HKw := Lib.hid (And.intro hP hQ)
  have HK0 := Lib.hid (And.intro (hP.below hb0) (hQ.below hb0))
  have HB0 := Lib.hid hb0
  have HO := Lib.hid o
  clear hP hQ o hb0 bx0 bx1
  go_enter Try.func88, Try.ntmps88
  rcases downE_cases h.s t with ⟨he, ht, hle⟩ | ⟨he, hn⟩
  · have HT := Lib.hid (And.intro ht hle)
    have HE0 := Lib.hid (show downF h t = downO h t by unfold downO; rw [he, if_pos rfl])
    have HE1 := Lib.hid he
    have d1 : decide (h.s < t) = false := by simp; omega
    clear he hle
    go_wp2_with (go_at_call 78; refine (refright_any _ _).mono ?_; rintro e w' ⟨rfl, rfl⟩)
    have hs0 : ((w.alloc (.cells #[.int .i64 h.k, .int .i64 h.s, .int .i64 h.z, .int .u64 h.zc, .int .u64 h.ct, .int .i64 h.sm, .slice A h.P.length c, .slice B h.Q.length d] 25)).alloc (.cells #[.int .i64 0, .int .i64 0, .int .i64 0, .int .u64 0, .int .u64 0, .int .i64 0, .slice none 0 0, .slice none 0 0] 25)).heap.size = w.heap.size + 1 + 1 := by simp
    generalize ((w.alloc (.cells #[.int .i64 h.k, .int .i64 h.s, .int .i64 h.z, .int .u64 h.zc, .int .u64 h.ct, .int .i64 h.sm, .slice A h.P.length c, .slice B h.Q.length d] 25)).alloc (.cells #[.int .i64 0, .int .i64 0, .int .i64 0, .int .u64 0, .int .u64 0, .int .i64 0, .slice none 0 0, .slice none 0 0] 25)) = w0 at *
    clear ht
    have hw : Below w0.heap.size w0 (w0.alloc (.cells #[.int .i64 h.k, .int .i64 t, .int .i64 h.z, .int .u64 h.zc, .int .u64 h.ct, .int .i64 h.sm, .slice A h.P.length c, .slice B h.Q.length d] 25)) := (Below.refl _ _).alloc (Nat.le_refl _) _
    have HX1 := Lib.hid (And.intro (HX0.out.1.below hw) (And.intro (HX0.out.2.below hw) (Box.new w0 (.int .i64 h.k) (.int .i64 t) (.int .i64 h.z) (.int .u64 h.zc) (.int .u64 h.ct) (.int .i64 h.sm) (.slice A h.P.length c) (.slice B h.Q.length d))))
    have HK1 := Lib.hid (And.intro (HK0.out.1.below hw) (HK0.out.2.below hw))
    have HB1 := Lib.hid (HB0.out.trans (hw.mono HB0.out.size))
    have HL1 := Lib.hid (show w.heap.size + 1 < w0.heap.size from HX0.out.2.lt)
    clear hw HX0 HK0 HB0
    obtain ⟨g, hg⟩ : ∃ g, w.heap.size + 1 + 1 = g := ⟨_, rfl⟩
    rw [hs0, hg] at HX1
    rw [hs0] at HL1
    rw [hg] at HL1 ⊢
    clear hg hs0
    generalize w0.alloc (.cells #[.int .i64 h.k, .int .i64 t, .int .i64 h.z, .int .u64 h.zc, .int .u64 h.ct, .int .i64 h.sm, .slice A h.P.length c, .slice B h.Q.length d] 25) = w1 at *
    have HL2 := Lib.hid (show g < w1.heap.size from HX1.out.2.2.lt)
    obtain ⟨X, hX⟩ : ∃ l, tidy (mv h.s t h.P) = l := ⟨_, rfl⟩
    obtain ⟨Y, hY⟩ : ∃ l, tidy (mv h.s t h.Q) = l := ⟨_, rfl⟩
    have HXX := Lib.hid hX
    have HYY := Lib.hid hY
    have HC := Lib.hid (coarse_parts HO.out HT.out.1 HT.out.2)
    refine (refcoarse_any h.s t A c h.P w1 HK1.out.1 (by have := HO.out.lP; omega) (cnt_bd HO.out).1 HO.out.s HT.out.1 HT.out.2 HO.out.iP).mono ?_
    rw [hX]
    rintro e w2 ⟨A1, c1, rfl, hA, hb, nA⟩
    have HX2 := Lib.hid (And.intro (HX1.out.1.below hb) (And.intro (HX1.out.2.1.below hb) (HX1.out.2.2.below hb)))
    have HK2 := Lib.hid (And.intro (HK1.out.2.below hb) hA)
    have HB2 := Lib.hid (HB1.out.trans (hb.mono HB1.out.size))
    have HN2 := Lib.hid (nA.ne HL2.out)
    clear hX hY hA hb nA HX1 HK1 HB1
    obtain ⟨x0, x1, x2, x3, x4, x5, x6, x7⟩ := HX2.out.1.cells
    obtain ⟨y0, y1, y2, y3, y4, y5, y6, y7⟩ := HX2.out.2.2.cells
    obtain ⟨f0, f1, f2, f3, f4, f5, f6, f7⟩ := HX2.out.2.2.frozen
    have l0 := HX2.out.1.lt
    have l2 := HX2.out.2.2.lt
    go_wp2_with fail
    clear x0 x1 x2 x3 x4 x5 x6 x7 y0 y1 y2 y3 y4 y5 y6 y7 f0 f1 f2 f3 f4 f5 f6 f7 l0 l2
    have HX3 := Lib.hid (And.intro (Box.off (g' := g) HX2.out.1 (by have := HL1.out; omega) 6 (.slice A1 X.length c1)) (And.intro (Box.off (g' := g) HX2.out.2.1 (by have := HL1.out; omega) 6 (.slice A1 X.length c1)) (HX2.out.2.2.set6 (.slice A1 X.length c1))))
    have HK3 := Lib.hid (And.intro (Bk.offg (g := g) HK2.out.1 (HKw.out.2.ne_lt (by have := HL1.out; omega)) 6 (.slice A1 X.length c1)) (HK2.out.2.off HN2.out 6 (.slice A1 X.length c1)))
    have HB3 := Lib.hid (HB2.out.setCell (p := ⟨g, 6, none⟩) (by have := HL1.out; simp; omega) (.slice A1 X.length c1))
    clear HX2 HK2 HB2
    generalize w2.setCell ⟨g, 6, none⟩ (.slice A1 X.length c1) = w3 at *
    refine (refcoarse_any h.s t B d h.Q w3 HK3.out.1 (by have := HO.out.lQ; omega) (cnt_bd HO.out).2 HO.out.s HT.out.1 HT.out.2 HO.out.iQ).mono ?_
    rw [HYY.out]
    rintro e w4 ⟨B1, d1, rfl, hB, hb, nB⟩
    have HL3 := Lib.hid (show g < w3.heap.size from HX3.out.2.2.lt)
    have HX4 := Lib.hid (And.intro (HX3.out.1.below hb) (And.intro (HX3.out.2.1.below hb) (HX3.out.2.2.below hb)))
    have HK4 := Lib.hid (And.intro (HK3.out.2.below hb) hB)
    have HB4 := Lib.hid (HB3.out.trans (hb.mono HB3.out.size))
    have HN4 := Lib.hid (nB.ne HL3.out)
    clear hB hb nB HX3 HK3 HB3
    obtain ⟨x0, x1, x2, x3, x4, x5, x6, x7⟩ := HX4.out.1.cells
    obtain ⟨y0, y1, y2, y3, y4, y5, y6, y7⟩ := HX4.out.2.2.cells
    obtain ⟨f0, f1, f2, f3, f4, f5, f6, f7⟩ := HX4.out.2.2.frozen
    have l0 := HX4.out.1.lt
    have l2 := HX4.out.2.2.lt
    have hne : ¬ w.heap.size = g := by have := HL1.out; omega
    go_wp2_with fail
    clear x0 x1 x2 x3 x4 x5 x6 x7 y0 y1 y2 y3 y4 y5 y6 y7 f0 f1 f2 f3 f4 f5 f6 f7 l0 l2
    have HX5 := Lib.hid (And.intro (Box.off (g' := g) HX4.out.2.1 (by have := HL1.out; omega) 7 (.slice B1 Y.length d1)) (HX4.out.2.2.set7 (.slice B1 Y.length d1)))
    have HK5 := Lib.hid (And.intro (HK4.out.1.off HN2.out 7 (.slice B1 Y.length d1)) (HK4.out.2.off HN4.out 7 (.slice B1 Y.length d1)))
    have HB5 := Lib.hid (HB4.out.setCell (p := ⟨g, 7, none⟩) (by have := HL1.out; simp; omega) (.slice B1 Y.length d1))
    clear HX4 HK4 HB4
    generalize w4.setCell ⟨g, 7, none⟩ (.slice B1 Y.length d1) = w5 at *
    have hsw := refswallow_any ⟨h.k, t, h.z, h.zc, h.ct, h.sm, X, Y⟩ h.z A1 B1 c1 d1 w5 HK5.out.1 HK5.out.2 (by have := HC.out.1; unfold coarseH at this; rw [HXX.out, HYY.out] at this; exact this) (by have := HC.out.2.2.2.1; unfold coarseH at this; simp only at this; rw [HXX.out] at this; exact this) (by have := HC.out.2.2.2.2; unfold coarseH at this; simp only at this; rw [HYY.out] at this; exact this)
    refine hsw.mono ?_
    rintro e w6 ⟨A2, B2, c2, d2, rfl, hA, hB, hb, nA, nB⟩
    have HSW := Lib.hid (show swF ⟨h.k, t, h.z, h.zc, h.ct, h.sm, X, Y⟩ h.z = downF h t by rw [← ref_down HO.out HT.out.1 HT.out.2]; unfold coarseH; rw [HXX.out, HYY.out])
    rw [HSW.out] at hA hB
    simp only [hvA, HSW.out]
    obtain ⟨r, hr⟩ : ∃ r, downF h t = r := ⟨_, rfl⟩
    rw [hr] at hA hB HE0
    simp only [hr]
    have HS5 := Lib.hid (show w.heap.size + 1 < w5.heap.size from HX5.out.1.lt)
    have HX6 := Lib.hid (HX5.out.1.below hb)
    have HB6 := Lib.hid (HB5.out.trans (hb.mono HB5.out.size))
    have HW5 := Lib.hid HB5.out.size
    have HE := Lib.hid (show RetH w (downO h t) (downE h.s t) (.returned (.tuple #[.agg #[.int .i64 r.k, .int .i64 r.s, .int .i64 r.z, .int .u64 r.zc, .int .u64 r.ct, .int .i64 r.sm, .slice A2 r.P.length c2, .slice B2 r.Q.length d2], .int .i64 0])) (set8 w6 (w.heap.size + 1) (.int .i64 r.k) (.int .i64 r.s) (.int .i64 r.z) (.int .u64 r.zc) (.int .u64 r.ct) (.int .i64 r.sm) (.slice A2 r.P.length c2) (.slice B2 r.Q.length d2)) from by
      rw [← HE0.out, HE1.out]
      exact ⟨A2, B2, c2, d2, rfl, hA.set8 (nA.ne HS5.out) _ _ _ _ _ _ _ _, hB.set8 (nB.ne HS5.out) _ _ _ _ _ _ _ _, below_set8 HB6.out (by omega) _ _ _ _ _ _ _ _, nA.mono HW5.out, nB.mono HW5.out⟩)
    have HF := Lib.hid (HX6.out.put8 (.int .i64 r.k) (.int .i64 r.s) (.int .i64 r.z) (.int .u64 r.zc) (.int .u64 r.ct) (.int .i64 r.sm) (.slice A2 r.P.length c2) (.slice B2 r.Q.length d2))
    clear hsw hA hB hb nA nB HX5 HK5 HB5 hne hr
    obtain ⟨z0, z1, z2, z3, z4, z5, z6, z7⟩ := HX6.out.cells
    obtain ⟨f0, f1, f2, f3, f4, f5, f6, f7⟩ := HX6.out.frozen
    have l0 := HX6.out.lt
    go_wp2_with fail
    clear z0 z1 z2 z3 z4 z5 z6 z7 f0 f1 f2 f3 f4 f5 f6 f7 l0
    generalize hW : ((((((((w6.setCell ⟨w.heap.size + 1, 0, none⟩ (.int .i64 r.k)).setCell ⟨w.heap.size + 1, 1, none⟩ (.int .i64 r.s)).setCell ⟨w.heap.size + 1, 2, none⟩ (.int .i64 r.z)).setCell ⟨w.heap.size + 1, 3, none⟩ (.int .u64 r.zc)).setCell ⟨w.heap.size + 1, 4, none⟩ (.int .u64 r.ct)).setCell ⟨w.heap.size + 1, 5, none⟩ (.int .i64 r.sm)).setCell ⟨w.heap.size + 1, 6, none⟩ (.slice A2 r.P.length c2)).setCell ⟨w.heap.size + 1, 7, none⟩ (.slice B2 r.Q.length d2)) = w9
    have hW' : (set8 w6 (w.heap.size + 1) (.int .i64 r.k) (.int .i64 r.s) (.int .i64 r.z) (.int .u64 r.zc) (.int .u64 r.ct) (.int .i64 r.sm) (.slice A2 r.P.length c2) (.slice B2 r.Q.length d2)) = w9 := hW
    rw [hW'] at HE HF
    obtain ⟨z0, z1, z2, z3, z4, z5, z6, z7⟩ := HF.out.cells
    exact bodyPost_ret (v := .tuple #[.agg #[.int .i64 r.k, .int .i64 r.s, .int .i64 r.z, .int .u64 r.zc, .int .u64 r.ct, .int .i64 r.sm, .slice A2 r.P.length c2, .slice B2 r.Q.length d2], .int .i64 0]) (by simp [results, Try.results88, go_sem, z0, z1, z2, z3, z4, z5, z6, z7]) rfl HE.out
  · have HE0 := Lib.hid (show downO h t = zeroV by unfold downO; rw [he, if_neg (by decide)])
    have HE := Lib.hid (show RetH w (downO h t) (downE h.s t) (.returned (.tuple #[.agg #[.int .i64 0, .int .i64 0, .int .i64 0, .int .u64 0, .int .u64 0, .int .i64 0, .slice none 0 0, .slice none 0 0], .int .i64 20])) ((w.alloc (.cells #[.int .i64 h.k, .int .i64 h.s, .int .i64 h.z, .int .u64 h.zc, .int .u64 h.ct, .int .i64 h.sm, .slice A h.P.length c, .slice B h.Q.length d] 25)).alloc (.cells #[.int .i64 0, .int .i64 0, .int .i64 0, .int .u64 0, .int .u64 0, .int .i64 0, .slice none 0 0, .slice none 0 0] 25)) from by rw [HE0.out, he]; exact RetH.zero HB0.out)
    obtain ⟨z0, z1, z2, z3, z4, z5, z6, z7⟩ := HX0.out.2.cells
    clear he
    rcases hr : rightB t with _ | _
    · clear hn
      go_wp2_with (go_at_call 78; refine (refright_any _ _).mono ?_; rintro e w' ⟨rfl, rfl⟩)
      exact bodyPost_ret (v := .tuple #[.agg #[.int .i64 0, .int .i64 0, .int .i64 0, .int .u64 0, .int .u64 0, .int .i64 0, .slice none 0 0, .slice none 0 0], .int .i64 20]) (by simp [results, Try.results88, go_sem, z0, z1, z2, z3, z4, z5, z6, z7]) rfl HE.out
    · have d1 : decide (h.s < t) = true := by
        have : ¬ t ≤ h.s := fun h => hn ⟨hr, h⟩
        simp; omega
      clear hn
      go_wp2_with (go_at_call 78; refine (refright_any _ _).mono ?_; rintro e w' ⟨rfl, rfl⟩)
      exact bodyPost_ret (v := .tuple #[.agg #[.int .i64 0, .int .i64 0, .int .i64 0, .int .u64 0, .int .u64 0, .int .i64 0, .slice none 0 0, .slice none 0 0], .int .i64 20]) (by simp [results, Try.results88, go_sem, z0, z1, z2, z3, z4, z5, z6, z7]) rfl HE.out
end Go.Proofs.Ytbibhjcmdehdbaa

/-! The document's Widen. -/
namespace Go.Proofs.Ytbibhjcmdehdbaa
open Go.RowKit Go.Sort Go.Maps
set_option linter.unusedVariables false

/-- a histogram and an error; its slices are new, or those that were handed in -/
def RetN (w : World) (A B : Option Addr) (r : HV) (E : Int) (e : Ending) (w' : World) : Prop :=
  ∃ (A' B' : Option Addr) (c d : Nat), e = .returned (.tuple #[hvA r A' B' c d, .int .i64 E]) ∧ Bk w' A' r.P ∧ Bk w' B' r.Q ∧ Below w.heap.size w w' ∧ (∀ W0 : World, W0.heap.size ≤ w.heap.size → NewA W0 A → NewA W0 B → NewA W0 A' ∧ NewA W0 B')
/-- a histogram and an error: new, or just what was handed in -/
def RetW (w : World) (h : HV) (A B : Option Addr) (c d : Nat) (r : HV) (E : Int) (e : Ending) (w' : World) : Prop :=
  RetH w r E e w' ∨ (r = h ∧ E = 0 ∧ e = .returned (.tuple #[hvA h A B c d, .int .i64 0]) ∧ Below w.heap.size w w')
theorem RetW.ne {w : World} {h : HV} {A B : Option Addr} {c d : Nat} {r : HV} {E : Int} {e : Ending} {w' : World} (k : RetW w h A B c d r E e w') {g : Nat} (hg : g < w.heap.size) (hP : Bk w A h.P) (hQ : Bk w B h.Q) (kA : h.P.length = 0 ∨ ∀ a, A = some a → a.block ≠ g) (kB : h.Q.length = 0 ∨ ∀ a, B = some a → a.block ≠ g) {q : HV} (hq : r = q) {E2 : Int} (hE : E = E2) :
    ∃ (A' B' : Option Addr) (c' d' : Nat), e = .returned (.tuple #[hvA q A' B' c' d', .int .i64 E2]) ∧ Bk w' A' q.P ∧ Bk w' B' q.Q ∧ Below w.heap.size w w' ∧ (q.P.length = 0 ∨ ∀ a, A' = some a → a.block ≠ g) ∧ (q.Q.length = 0 ∨ ∀ a, B' = some a → a.block ≠ g) := by
  subst hq hE
  rcases k with ⟨A', B', c', d', he, hA, hB, hb, nA, nB⟩ | ⟨rfl, rfl, he, hb⟩
  · exact ⟨A', B', c', d', he, hA, hB, hb, .inr (nA.ne hg), .inr (nB.ne hg)⟩
  · exact ⟨A, B, c, d, he, hP.below hb, hQ.below hb, hb, kA, kB⟩
theorem RetH.toN {w : World} {A B : Option Addr} {r : HV} {E : Int} {e : Ending} {w' : World} (h : RetH w r E e w') : RetN w A B r E e w' := by
  obtain ⟨A', B', c, d, he, hA, hB, hb, nA, nB⟩ := h
  exact ⟨A', B', c, d, he, hA, hB, hb, fun W0 hs _ _ => ⟨nA.mono hs, nB.mono hs⟩⟩
theorem RetN.as {w : World} {A B : Option Addr} {r r' : HV} {E E' : Int} (hr : r = r') (hE : E = E') {e : Ending} {w' : World} (h : RetN w A B r E e w') : RetN w A B r' E' e w' := by
  subst hr hE; exact h
set_option maxHeartbeats 4000000 in
set_option maxRecDepth 100000 in
theorem refwiden_w (h : HV) (u : Int) (A B : Option Addr) (c d : Nat) (w : World) (hP : Bk w A h.P) (hQ : Bk w B h.Q) (o : Ok h) :
    Calls Try.prog 89 #[.agg #[.int .i64 h.k, .int .i64 h.s, .int .i64 h.z, .int .u64 h.zc, .int .u64 h.ct, .int .i64 h.sm, .slice A h.P.length c, .slice B h.Q.length d], .int .i64 u] w (RetW w h A B c d (widenO h u) (widenE h.z u)) := by
  have hb0 := ((Below.refl w.heap.size w).alloc (Nat.le_refl _) (.cells #[.int .i64 h.k, .int .i64 h.s, .int .i64 h.z, .int .u64 h.zc, .int .u64 h.ct, .int .i64 h.sm, .slice A h.P.length c, .slice B h.Q.length d] 25)).alloc (by simp) (.cells #[.int .i64 0, .int .i64 0, .int .i64 0, .int .u64 0, .int .u64 0, .int .i64 0, .slice none 0 0, .slice none 0 0] 25)
  have bx0 := (Box.new w (.int .i64 h.k) (.int .i64 h.s) (.int .i64 h.z) (.int .u64 h.zc) (.int .u64 h.ct) (.int .i64 h.sm) (.slice A h.P.length c) (.slice B h.Q.length d)).alloc (.cells #[.int .i64 0, .int .i64 0, .int .i64 0, .int .u64 0, .int .u64 0, .int .i64 0, .slice none 0 0, .slice none 0 0] 25)
  have bx1 := Box.newAt (w.alloc (.cells #[.int .i64 h.k, .int .i64 h.s, .int .i64 h.z, .int .u64 h.zc, .int .u64 h.ct, .int .i64 h.sm, .slice A h.P.length c, .slice B h.Q.length d] 25)) (w.heap.size + 1) (by simp) (.int .i64 0) (.int .i64 0) (.int .i64 0) (.int .u64 0) (.int .u64 0) (.int .i64 0) (.slice none 0 0) (.slice none 0 0)
  have HX0 := Lib.hid (And.intro bx0 bx1)
  have HKw := Lib.hid (And.intro hP hQ)
  have HK0 := Lib.hid (And.intro (hP.below hb0) (hQ.below hb0))
  have HB0 := Lib.hid hb0
  have HO := Lib.hid o
  clear hP hQ o hb0 bx0 bx1
  go_enter Try.func89, Try.ntmps89
  rcases widenE_cases HO.out u with ⟨he, hle, hz⟩ | ⟨he, hn⟩
  · have HE1 := Lib.hid he
    have HE0 := Lib.hid (show widenO h u = swF h u by unfold widenO; rw [he, if_pos rfl])
    have d1 : decide (u < h.z) = false := by simp; omega
    clear he
    by_cases e : u = h.z
    · subst e
      have d2 : (h.z != h.z) = false := by simp
      have d3 : (h.z == h.z) = true := by simp
      have hbH := ((Below.refl w.heap.size w).alloc (Nat.le_refl _) (.cells #[.int .i64 h.k, .int .i64 h.s, .int .i64 h.z, .int .u64 h.zc, .int .u64 h.ct, .int .i64 h.sm, .slice A h.P.length c, .slice B h.Q.length d] 25)).alloc (by simp) (.cells #[.int .i64 h.k, .int .i64 h.s, .int .i64 h.z, .int .u64 h.zc, .int .u64 h.ct, .int .i64 h.sm, .slice A h.P.length c, .slice B h.Q.length d] 25)
      have HE := Lib.hid (show RetW w h A B c d (widenO h h.z) (widenE h.z h.z) (.returned (.tuple #[.agg #[.int .i64 h.k, .int .i64 h.s, .int .i64 h.z, .int .u64 h.zc, .int .u64 h.ct, .int .i64 h.sm, .slice A h.P.length c, .slice B h.Q.length d], .int .i64 0])) ((w.alloc (.cells #[.int .i64 h.k, .int .i64 h.s, .int .i64 h.z, .int .u64 h.zc, .int .u64 h.ct, .int .i64 h.sm, .slice A h.P.length c, .slice B h.Q.length d] 25)).alloc (.cells #[.int .i64 h.k, .int .i64 h.s, .int .i64 h.z, .int .u64 h.zc, .int .u64 h.ct, .int .i64 h.sm, .slice A h.P.length c, .slice B h.Q.length d] 25)) from by
        rw [HE0.out, HE1.out, sw_self HO.out]
        exact .inr ⟨rfl, rfl, rfl, hbH⟩)
      obtain ⟨z0, z1, z2, z3, z4, z5, z6, z7⟩ := (Box.newAt (w.alloc (.cells #[.int .i64 h.k, .int .i64 h.s, .int .i64 h.z, .int .u64 h.zc, .int .u64 h.ct, .int .i64 h.sm, .slice A h.P.length c, .slice B h.Q.length d] 25)) (w.heap.size + 1) (by simp) (.int .i64 h.k) (.int .i64 h.s) (.int .i64 h.z) (.int .u64 h.zc) (.int .u64 h.ct) (.int .i64 h.sm) (.slice A h.P.length c) (.slice B h.Q.length d)).cells
      clear hle hz hbH
      go_wp2_with fail
      exact bodyPost_ret (v := .tuple #[.agg #[.int .i64 h.k, .int .i64 h.s, .int .i64 h.z, .int .u64 h.zc, .int .u64 h.ct, .int .i64 h.sm, .slice A h.P.length c, .slice B h.Q.length d], .int .i64 0]) (by simp [results, Try.results89, go_sem, z0, z1, z2, z3, z4, z5, z6, z7]) rfl HE.out
    · have d2 : (u != h.z) = true := by simpa using e
      have d3 : (u == h.z) = false := by simpa using e
      have HZ := Lib.hid hz
      have hz2 : -262144 < u ∧ u ≤ 262144 := by have := HO.out.z; unfold zr at *; omega
      have d4 : decide (u ≤ -262144) = false := by simp; omega
      have d5 : decide (262144 < u) = false := by simp; omega
      clear e hle hz hz2
      go_wp2_with fail
      generalize ((w.alloc (.cells #[.int .i64 h.k, .int .i64 h.s, .int .i64 h.z, .int .u64 h.zc, .int .u64 h.ct, .int .i64 h.sm, .slice A h.P.length c, .slice B h.Q.length d] 25)).alloc (.cells #[.int .i64 0, .int .i64 0, .int .i64 0, .int .u64 0, .int .u64 0, .int .i64 0, .slice none 0 0, .slice none 0 0] 25)) = w0 at *
      have HS0 := Lib.hid HX0.out.2.lt
      have HW0 := Lib.hid HB0.out.size
      refine (refswallow_any h u A B c d w0 HK0.out.1 HK0.out.2 HO.out.toGood HO.out.lP HO.out.lQ).mono ?_
      rintro e w1 ⟨A2, B2, c2, d2', rfl, hA, hB, hb, nA, nB⟩
      obtain ⟨r, hr⟩ : ∃ r, swF h u = r := ⟨_, rfl⟩
      rw [hr] at hA hB HE0
      simp only [hvA, hr]
      have HX1 := Lib.hid (HX0.out.2.below hb)
      have HB1 := Lib.hid (HB0.out.trans (hb.mono HB0.out.size))
      have HE := Lib.hid (show RetW w h A B c d (widenO h u) (widenE h.z u) (.returned (.tuple #[.agg #[.int .i64 r.k, .int .i64 r.s, .int .i64 r.z, .int .u64 r.zc, .int .u64 r.ct, .int .i64 r.sm, .slice A2 r.P.length c2, .slice B2 r.Q.length d2'], .int .i64 0])) (set8 w1 (w.heap.size + 1) (.int .i64 r.k) (.int .i64 r.s) (.int .i64 r.z) (.int .u64 r.zc) (.int .u64 r.ct) (.int .i64 r.sm) (.slice A2 r.P.length c2) (.slice B2 r.Q.length d2')) from by
        rw [HE0.out, HE1.out]
        exact .inl ⟨A2, B2, c2, d2', rfl, hA.set8 (nA.ne HS0.out) _ _ _ _ _ _ _ _, hB.set8 (nB.ne HS0.out) _ _ _ _ _ _ _ _, below_set8 HB1.out (by omega) _ _ _ _ _ _ _ _, nA.mono HW0.out, nB.mono HW0.out⟩)
      have HF := Lib.hid (HX1.out.put8 (.int .i64 r.k) (.int .i64 r.s) (.int .i64 r.z) (.int .u64 r.zc) (.int .u64 r.ct) (.int .i64 r.sm) (.slice A2 r.P.length c2) (.slice B2 r.Q.length d2'))
      clear hA hB hb nA nB HX0 HK0 HB0 hr
      obtain ⟨z0, z1, z2, z3, z4, z5, z6, z7⟩ := HX1.out.cells
      obtain ⟨f0, f1, f2, f3, f4, f5, f6, f7⟩ := HX1.out.frozen
      have l0 := HX1.out.lt
      go_wp2_with fail
      clear z0 z1 z2 z3 z4 z5 z6 z7 f0 f1 f2 f3 f4 f5 f6 f7 l0
      generalize hW : ((((((((w1.setCell ⟨w.heap.size + 1, 0, none⟩ (.int .i64 r.k)).setCell ⟨w.heap.size + 1, 1, none⟩ (.int .i64 r.s)).setCell ⟨w.heap.size + 1, 2, none⟩ (.int .i64 r.z)).setCell ⟨w.heap.size + 1, 3, none⟩ (.int .u64 r.zc)).setCell ⟨w.heap.size + 1, 4, none⟩ (.int .u64 r.ct)).setCell ⟨w.heap.size + 1, 5, none⟩ (.int .i64 r.sm)).setCell ⟨w.heap.size + 1, 6, none⟩ (.slice A2 r.P.length c2)).setCell ⟨w.heap.size + 1, 7, none⟩ (.slice B2 r.Q.length d2')) = w9
      have hW' : (set8 w1 (w.heap.size + 1) (.int .i64 r.k) (.int .i64 r.s) (.int .i64 r.z) (.int .u64 r.zc) (.int .u64 r.ct) (.int .i64 r.sm) (.slice A2 r.P.length c2) (.slice B2 r.Q.length d2')) = w9 := hW
      rw [hW'] at HE HF
      obtain ⟨z0, z1, z2, z3, z4, z5, z6, z7⟩ := HF.out.cells
      exact bodyPost_ret (v := .tuple #[.agg #[.int .i64 r.k, .int .i64 r.s, .int .i64 r.z, .int .u64 r.zc, .int .u64 r.ct, .int .i64 r.sm, .slice A2 r.P.length c2, .slice B2 r.Q.length d2'], .int .i64 0]) (by simp [results, Try.results89, go_sem, z0, z1, z2, z3, z4, z5, z6, z7]) rfl HE.out
  · have HE1 := Lib.hid he
    have HE0 := Lib.hid (show widenO h u = zeroV by unfold widenO; rw [he, if_neg (by decide)])
    clear he
    by_cases h1 : u < h.z
    · have d1 : decide (u < h.z) = true := by simpa using h1
      clear hn h1
      skip
      have HE := Lib.hid (show RetW w h A B c d (widenO h u) (widenE h.z u) (.returned (.tuple #[.agg #[.int .i64 0, .int .i64 0, .int .i64 0, .int .u64 0, .int .u64 0, .int .i64 0, .slice none 0 0, .slice none 0 0], .int .i64 31])) ((w.alloc (.cells #[.int .i64 h.k, .int .i64 h.s, .int .i64 h.z, .int .u64 h.zc, .int .u64 h.ct, .int .i64 h.sm, .slice A h.P.length c, .slice B h.Q.length d] 25)).alloc (.cells #[.int .i64 0, .int .i64 0, .int .i64 0, .int .u64 0, .int .u64 0, .int .i64 0, .slice none 0 0, .slice none 0 0] 25)) from by rw [HE0.out, HE1.out]; exact .inl (RetH.zero HB0.out))
      obtain ⟨z0, z1, z2, z3, z4, z5, z6, z7⟩ := HX0.out.2.cells
      go_wp2_with fail
      exact bodyPost_ret (v := .tuple #[.agg #[.int .i64 0, .int .i64 0, .int .i64 0, .int .u64 0, .int .u64 0, .int .i64 0, .slice none 0 0, .slice none 0 0], .int .i64 31]) (by simp [results, Try.results89, go_sem, z0, z1, z2, z3, z4, z5, z6, z7]) rfl HE.out
    · have d1 : decide (u < h.z) = false := by simpa using h1
      have d2 : (u != h.z) = true := by simp; omega
      by_cases h2 : u ≤ -262144
      · have d3 : decide (u ≤ -262144) = true := by simpa using h2
        clear hn h1 h2
        skip
        have HE := Lib.hid (show RetW w h A B c d (widenO h u) (widenE h.z u) (.returned (.tuple #[.agg #[.int .i64 0, .int .i64 0, .int .i64 0, .int .u64 0, .int .u64 0, .int .i64 0, .slice none 0 0, .slice none 0 0], .int .i64 31])) ((w.alloc (.cells #[.int .i64 h.k, .int .i64 h.s, .int .i64 h.z, .int .u64 h.zc, .int .u64 h.ct, .int .i64 h.sm, .slice A h.P.length c, .slice B h.Q.length d] 25)).alloc (.cells #[.int .i64 0, .int .i64 0, .int .i64 0, .int .u64 0, .int .u64 0, .int .i64 0, .slice none 0 0, .slice none 0 0] 25)) from by rw [HE0.out, HE1.out]; exact .inl (RetH.zero HB0.out))
        obtain ⟨z0, z1, z2, z3, z4, z5, z6, z7⟩ := HX0.out.2.cells
        go_wp2_with fail
        exact bodyPost_ret (v := .tuple #[.agg #[.int .i64 0, .int .i64 0, .int .i64 0, .int .u64 0, .int .u64 0, .int .i64 0, .slice none 0 0, .slice none 0 0], .int .i64 31]) (by simp [results, Try.results89, go_sem, z0, z1, z2, z3, z4, z5, z6, z7]) rfl HE.out
      · have d3 : decide (u ≤ -262144) = false := by simpa using h2
        have d4 : decide (262144 < u) = true := by simp; omega
        clear hn h1 h2
        skip
        have HE := Lib.hid (show RetW w h A B c d (widenO h u) (widenE h.z u) (.returned (.tuple #[.agg #[.int .i64 0, .int .i64 0, .int .i64 0, .int .u64 0, .int .u64 0, .int .i64 0, .slice none 0 0, .slice none 0 0], .int .i64 31])) ((w.alloc (.cells #[.int .i64 h.k, .int .i64 h.s, .int .i64 h.z, .int .u64 h.zc, .int .u64 h.ct, .int .i64 h.sm, .slice A h.P.length c, .slice B h.Q.length d] 25)).alloc (.cells #[.int .i64 0, .int .i64 0, .int .i64 0, .int .u64 0, .int .u64 0, .int .i64 0, .slice none 0 0, .slice none 0 0] 25)) from by rw [HE0.out, HE1.out]; exact .inl (RetH.zero HB0.out))
        obtain ⟨z0, z1, z2, z3, z4, z5, z6, z7⟩ := HX0.out.2.cells
        go_wp2_with fail
        exact bodyPost_ret (v := .tuple #[.agg #[.int .i64 0, .int .i64 0, .int .i64 0, .int .u64 0, .int .u64 0, .int .i64 0, .slice none 0 0, .slice none 0 0], .int .i64 31]) (by simp [results, Try.results89, go_sem, z0, z1, z2, z3, z4, z5, z6, z7]) rfl HE.out
theorem refwiden_any (h : HV) (u : Int) (A B : Option Addr) (c d : Nat) (w : World) (hP : Bk w A h.P) (hQ : Bk w B h.Q) (o : Ok h) :
    Calls Try.prog 89 #[.agg #[.int .i64 h.k, .int .i64 h.s, .int .i64 h.z, .int .u64 h.zc, .int .u64 h.ct, .int .i64 h.sm, .slice A h.P.length c, .slice B h.Q.length d], .int .i64 u] w (RetN w A B (widenO h u) (widenE h.z u)) := by
  refine (refwiden_w h u A B c d w hP hQ o).mono ?_
  rintro e w' (h1 | ⟨h1, h2, rfl, hb⟩)
  · exact h1.toN
  · rw [h1, h2]
    exact ⟨A, B, c, d, rfl, hP.below hb, hQ.below hb, hb, fun _ _ a b => ⟨a, b⟩⟩
end Go.Proofs.Ytbibhjcmdehdbaa
