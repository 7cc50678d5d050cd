/- Cells of a histogram's order as they lie in memory; contracts of rank's small functions and the document's. -/
import Derived.Test.YtbibhjcmdehdbaaMdC
namespace Go.Proofs.Ytbibhjcmdehdbaa
open Go.RowKit Go.Sort
set_option linter.unusedVariables false

/-- a bucket, wherever, and how many it has -/
structure Cel where
  d : Int
  s : Int
  i : Int
  n : Int
def cellsC (l : List Cel) : List Value := l.flatMap fun p => [.int .i64 p.d, .int .i64 p.s, .int .i64 p.i, .int .u64 p.n]
/-- a cell that may be -/
structure CelOk (c : Cel) : Prop where
  d : c.d = -1 ∨ c.d = 0 ∨ c.d = 1
  s : rightB c.s = true
  i : -262144 ≤ c.i ∧ c.i ≤ 262144
  n : 0 ≤ c.n ∧ c.n ≤ 18446744073709551615
def numF (d u : Int) : Int := d * (u + 262144 + 1)
/-- a place that may be -/
def plB (d u : Int) : Bool := if d = 0 then decide (u = 0) else if d = 1 ∨ d = -1 then decide (-262144 < u ∧ u ≤ 262144) else false
def loD (c : Cel) (z : Int) : Int := if 0 < c.d then 1 else if c.d < 0 then -1 else if z = -524288 then 0 else -1
def loU (c : Cel) (z : Int) : Int := if 0 < c.d then un c.s (c.i - 1) else if c.d < 0 then un c.s c.i else if z = -524288 then 0 else z
def hiD (c : Cel) (z : Int) : Int := if 0 < c.d then 1 else if c.d < 0 then -1 else if z = -524288 then 0 else 1
def hiU (c : Cel) (z : Int) : Int := if 0 < c.d then un c.s c.i else if c.d < 0 then un c.s (c.i - 1) else if z = -524288 then 0 else z
/-- is one place above another one? -/
def aboB (as_ au bs bu : Int) : Bool := if as_ ≠ bs then decide (bs < as_) else if 0 < as_ then decide (bu < au) else decide (as_ < 0 ∧ au < bu)
theorem CelOk.un_bd {c : Cel} (o : CelOk c) : (-9223372036854775808 ≤ un c.s c.i ∧ un c.s c.i ≤ 9223372036854775807) ∧ (-9223372036854775808 ≤ un c.s (c.i - 1) ∧ un c.s (c.i - 1) ≤ 9223372036854775807) := by
  have h := o.i
  have h1 := Go.Proofs.Ytbibhjcmdehdbaa.un_bd o.s (i := c.i) 262145 (by omega) (by omega)
  have h2 := Go.Proofs.Ytbibhjcmdehdbaa.un_bd o.s (i := c.i - 1) 262145 (by omega) (by omega)
  omega

theorem rkcell_any (d s : Int) (i n : Int) (w : World) :
    Calls Try.prog 59 #[.int .i64 d, .int .i64 s, .agg #[.int .i64 i, .int .u64 n]] w fun e w' => e = .returned (.agg #[.int .i64 d, .int .i64 s, .int .i64 i, .int .u64 n]) ∧ Below w.heap.size w w' := by
  go_enter Try.func59, Try.ntmps59
  go_wp2
  exact bodyPost_ret (v := .agg #[.int .i64 d, .int .i64 s, .int .i64 i, .int .u64 n]) (by simp [results, Try.results59, go_sem]) rfl ⟨rfl, ((Below.refl _ _).alloc (Nat.le_refl _) _).alloc (by simp) _⟩
theorem number_any (d u : Int) (w : World) (hd : d = -1 ∨ d = 0 ∨ d = 1) (hu : -4611686018427387904 ≤ u) (hu2 : u ≤ 4611686018427387904) :
    Calls Try.prog 69 #[.agg #[.int .i64 d, .int .i64 u]] w fun e w' => e = .returned (.int .i64 (numF d u)) ∧ Below w.heap.size w w' := by
  go_enter Try.func69, Try.ntmps69
  go_wp2
  have e : wrap64 (d * (u + 262144 + 1)) = numF d u := by
    unfold numF
    unfold wrap64
    rcases hd with rfl | rfl | rfl <;> omega
  rw [e]
  go_ret
  exact ⟨rfl, (Below.refl _ _).alloc (Nat.le_refl _) _⟩
theorem rkright_any (d u : Int) (w : World) :
    Calls Try.prog 67 #[.agg #[.int .i64 d, .int .i64 u]] w fun e w' => e = .returned (.bool (plB d u)) ∧ Below w.heap.size w w' := by
  have hb : Below w.heap.size w (w.alloc (.cells #[.int .i64 d, .int .i64 u] 60)) := (Below.refl _ _).alloc (Nat.le_refl _) _
  by_cases h0 : d = 0
  · subst h0
    go_enter Try.func67, Try.ntmps67
    go_wp2
    go_ret
    exact ⟨ret_bool (by unfold plB; simp; rfl), hb⟩
  · by_cases h1 : d = 1
    · subst h1
      go_enter Try.func67, Try.ntmps67
      go_wp2
      all_goals (go_ret; exact ⟨ret_bool (by unfold plB; simp; try omega), hb⟩)
    · by_cases h2 : d = -1
      · subst h2
        go_enter Try.func67, Try.ntmps67
        go_wp2
        all_goals (go_ret; exact ⟨ret_bool (by unfold plB; simp; try omega), hb⟩)
      · have e0 : (d == 0) = false := by simpa using h0
        have e1 : (d == 1) = false := by simpa using h1
        have e2 : (d == -1) = false := by simpa using h2
        have e : plB d u = false := by unfold plB; rw [if_neg h0, if_neg (by omega)]
        go_enter Try.func67, Try.ntmps67
        clear h0 h1 h2
        go_wp2
        go_ret
        exact ⟨ret_bool e.symm, hb⟩
theorem above8_any (as_ au bs bu : Int) (w : World) :
    Calls Try.prog 71 #[.int .i64 as_, .int .i64 au, .int .i64 bs, .int .i64 bu] w fun e w' => e = .returned (.bool (aboB as_ au bs bu)) ∧ w = w' := by
  by_cases h0 : as_ = bs
  · subst h0
    by_cases h1 : 0 < as_
    · have e : aboB as_ au as_ bu = decide (bu < au) := by simp [aboB, h1]
      rw [e]
      go_enter Try.func71, Try.ntmps71
      go_wp2
      go_ret
      exact ⟨rfl, rfl⟩
    · by_cases h2 : as_ < 0
      · have e : aboB as_ au as_ bu = decide (au < bu) := by simp [aboB, h1, h2]
        rw [e]
        go_enter Try.func71, Try.ntmps71
        go_wp2
        go_ret
        exact ⟨rfl, rfl⟩
      · have e : aboB as_ au as_ bu = false := by simp [aboB, h1, h2]
        rw [e]
        go_enter Try.func71, Try.ntmps71
        go_wp2
        go_ret
        exact ⟨rfl, rfl⟩
  · have e : aboB as_ au bs bu = decide (bs < as_) := by simp [aboB, h0]
    rw [e]
    have e0 : (as_ != bs) = true := by simpa using h0
    go_enter Try.func71, Try.ntmps71
    clear h0
    go_wp2
    go_ret
    exact ⟨rfl, rfl⟩
/-- a block that holds a row of cells -/
def Rb (W : World) (g : Nat) (t : TypeId) (vs : Array Value) : Prop := W.heap[g]? = some (.cells vs t (0, 0))
theorem Rb.lt {W : World} {g : Nat} {t : TypeId} {vs : Array Value} (h : Rb W g t vs) : g < W.heap.size := (Array.getElem?_eq_some_iff.1 h).1
theorem Rb.below {W W' : World} {g : Nat} {t : TypeId} {vs : Array Value} (h : Rb W g t vs) (hb : Below W.heap.size W W') : Rb W' g t vs := (hb.block g h.lt).trans h
theorem Rb.off {W : World} {g g' : Nat} {t : TypeId} {vs : Array Value} (h : Rb W g t vs) (hg : g ≠ g') (i : Nat) (u : Value) : Rb (W.setCell ⟨g', i, none⟩ u) g t vs := (heap_setCell_other W ⟨g', i, none⟩ g u hg).trans h
theorem Rb.cell {W : World} {g : Nat} {t : TypeId} {vs : Array Value} (h : Rb W g t vs) (i : Nat) : W.cell? ⟨g, i, none⟩ = vs[i]? := by
  rw [cell_of_row _ _ _ _ _ _ h]
theorem Rb.frozen {W : World} {g : Nat} {t : TypeId} {vs : Array Value} (h : Rb W g t vs) (i : Nat) : W.frozen? ⟨g, i, none⟩ = false := by
  have h' : W.heap[g]? = some (.cells vs t (0, 0)) := h
  simp [World.frozen?, h']
theorem Rb.new (W : World) (g : Nat) (hg : W.heap.size = g) (t : TypeId) (vs : Array Value) : Rb (W.alloc (.cells vs t)) g t vs := by subst hg; exact heap_alloc_new W _
theorem Rb.alloc {W : World} {g : Nat} {t : TypeId} {vs : Array Value} (h : Rb W g t vs) (o : Obj) : Rb (W.alloc o) g t vs := (Below.heap_alloc _ _ _ h.lt).trans h
theorem Rb.two {W : World} {g : Nat} {t : TypeId} {u v : Value} (h : Rb W g t #[u, v]) : W.cell? ⟨g, 0, none⟩ = some u ∧ W.cell? ⟨g, 1, none⟩ = some v ∧ W.frozen? ⟨g, 0, none⟩ = false ∧ W.frozen? ⟨g, 1, none⟩ = false := ⟨h.cell 0, h.cell 1, h.frozen 0, h.frozen 1⟩
theorem Rb.three {W : World} {g : Nat} {t : TypeId} {u v x : Value} (h : Rb W g t #[u, v, x]) : W.cell? ⟨g, 0, none⟩ = some u ∧ W.cell? ⟨g, 1, none⟩ = some v ∧ W.cell? ⟨g, 2, none⟩ = some x ∧ W.frozen? ⟨g, 0, none⟩ = false ∧ W.frozen? ⟨g, 1, none⟩ = false ∧ W.frozen? ⟨g, 2, none⟩ = false := ⟨h.cell 0, h.cell 1, h.cell 2, h.frozen 0, h.frozen 1, h.frozen 2⟩
theorem Rb.four {W : World} {g : Nat} {t : TypeId} {u v x y : Value} (h : Rb W g t #[u, v, x, y]) : W.cell? ⟨g, 0, none⟩ = some u ∧ W.cell? ⟨g, 1, none⟩ = some v ∧ W.cell? ⟨g, 2, none⟩ = some x ∧ W.cell? ⟨g, 3, none⟩ = some y := ⟨h.cell 0, h.cell 1, h.cell 2, h.cell 3⟩
theorem Rb.eight {W : World} {g : Nat} {t : TypeId} {v0 v1 v2 v3 v4 v5 v6 v7 : Value} (h : Rb W g t #[v0, v1, v2, v3, v4, v5, v6, v7]) :
    W.cell? ⟨g, 0, none⟩ = some v0 ∧ W.cell? ⟨g, 1, none⟩ = some v1 ∧ W.cell? ⟨g, 2, none⟩ = some v2 ∧ W.cell? ⟨g, 3, none⟩ = some v3 ∧ W.cell? ⟨g, 4, none⟩ = some v4 ∧ W.cell? ⟨g, 5, none⟩ = some v5 ∧ W.cell? ⟨g, 6, none⟩ = some v6 ∧ W.cell? ⟨g, 7, none⟩ = some v7 := ⟨h.cell 0, h.cell 1, h.cell 2, h.cell 3, h.cell 4, h.cell 5, h.cell 6, h.cell 7⟩

theorem ends_any (c : Cel) (z : Int) (w : World) (o : CelOk c) :
    Calls Try.prog 68 #[.agg #[.int .i64 c.d, .int .i64 c.s, .int .i64 c.i, .int .u64 c.n], .int .i64 z] w fun e w' => e = .returned (.tuple #[.agg #[.int .i64 (loD c z), .int .i64 (loU c z)], .agg #[.int .i64 (hiD c z), .int .i64 (hiU c z)]]) ∧ Below w.heap.size w w' := by
  obtain ⟨⟨u1, u2⟩, u3, u4⟩ := o.un_bd
  have i1 := o.i.1
  have i2 := o.i.2
  have R := o.s
  have hd := o.d
  obtain ⟨d, s, i, n⟩ := c
  simp only at *
  obtain ⟨U, hU⟩ : ∃ x, un s i = x := ⟨_, rfl⟩
  obtain ⟨L, hL⟩ : ∃ x, un s (i - 1) = x := ⟨_, rfl⟩
  have HU := Lib.hid (And.intro hU hL)
  have hlo : ∀ W : World, Calls Try.prog 101 #[.int .i64 s, .int .i64 i] W fun e w' => e = .returned (.int .i64 L) ∧ W = w' := fun W => by
    rw [← hL]; exact low_yes s i W R (by omega) (by omega) u3 u4
  have hun : ∀ W : World, Calls Try.prog 38 #[.int .i64 s, .int .i64 i] W fun e w' => e = .returned (.int .i64 U) ∧ W = w' := fun W => by
    rw [← hU]; exact units_yes s i W R u1 u2
  have HL := Lib.hid hlo
  have HN := Lib.hid hun
  clear hlo hun hU hL u1 u2 u3 u4 i1 i2 o R
  unfold loD loU hiD hiU
  simp only [HU.out.1, HU.out.2]
  rcases hd with rfl | rfl | rfl
  · simp only [show ¬ ((0 : Int) < -1) by decide, show ((-1 : Int) < 0) by decide, if_true, if_false]
    have HG := Lib.hid (And.intro (((Rb.new w w.heap.size rfl 50 #[.int .i64 (-1), .int .i64 s, .int .i64 i, .int .u64 n]).alloc (.cells #[.int .i64 0, .int .i64 0] 60)).alloc (.cells #[.int .i64 0, .int .i64 0] 60)) (And.intro ((Rb.new (w.alloc (.cells #[.int .i64 (-1), .int .i64 s, .int .i64 i, .int .u64 n] 50)) (w.heap.size + 1) (by simp) 60 #[.int .i64 0, .int .i64 0]).alloc (.cells #[.int .i64 0, .int .i64 0] 60)) (Rb.new ((w.alloc (.cells #[.int .i64 (-1), .int .i64 s, .int .i64 i, .int .u64 n] 50)).alloc (.cells #[.int .i64 0, .int .i64 0] 60)) (w.heap.size + 1 + 1) (by simp) 60 #[.int .i64 0, .int .i64 0])))
    have HB := Lib.hid ((((Below.refl w.heap.size w).alloc (Nat.le_refl _) (.cells #[.int .i64 (-1), .int .i64 s, .int .i64 i, .int .u64 n] 50)).alloc (by simp) (.cells #[.int .i64 0, .int .i64 0] 60)).alloc (by simp; omega) (.cells #[.int .i64 0, .int .i64 0] 60))
    go_enter Try.func68, Try.ntmps68
    go_wp2_with fail
    go_quiet (first | (go_at_call 101; exact stays rfl (HL.out _)) | (go_at_call 38; exact stays rfl (HN.out _)))
    obtain ⟨b0, b1, b2⟩ : Rb ((((w.alloc (.cells #[.int .i64 (-1), .int .i64 s, .int .i64 i, .int .u64 n] 50)).alloc (.cells #[.int .i64 0, .int .i64 0] 60)).alloc (.cells #[.int .i64 0, .int .i64 0] 60)).drewN nq) w.heap.size 50 #[.int .i64 (-1), .int .i64 s, .int .i64 i, .int .u64 n] ∧ Rb ((((w.alloc (.cells #[.int .i64 (-1), .int .i64 s, .int .i64 i, .int .u64 n] 50)).alloc (.cells #[.int .i64 0, .int .i64 0] 60)).alloc (.cells #[.int .i64 0, .int .i64 0] 60)).drewN nq) (w.heap.size + 1) 60 #[.int .i64 0, .int .i64 0] ∧ Rb ((((w.alloc (.cells #[.int .i64 (-1), .int .i64 s, .int .i64 i, .int .u64 n] 50)).alloc (.cells #[.int .i64 0, .int .i64 0] 60)).alloc (.cells #[.int .i64 0, .int .i64 0] 60)).drewN nq) (w.heap.size + 1 + 1) 60 #[.int .i64 0, .int .i64 0] := HG.out
    have hb := below_drewN HB.out nq
    generalize (((w.alloc (.cells #[.int .i64 (-1), .int .i64 s, .int .i64 i, .int .u64 n] 50)).alloc (.cells #[.int .i64 0, .int .i64 0] 60)).alloc (.cells #[.int .i64 0, .int .i64 0] 60)).drewN nq = w3 at *
    obtain ⟨x0, x1, x2, x3⟩ := b0.four
    obtain ⟨y0, y1, f0, f1⟩ := b1.two
    obtain ⟨z0, z1, g0, g1⟩ := b2.two
    have l0 := b0.lt
    have l1 := b1.lt
    have l2 := b2.lt
    clear b0 b1 b2
    go_wp2
    exact bodyPost_ret (v := .tuple #[.agg #[.int .i64 (-1), .int .i64 U], .agg #[.int .i64 (-1), .int .i64 L]]) (by simp [results, Try.results68, go_sem, y0, y1, z0, z1]) rfl ⟨rfl, (((hb.setCell (p := ⟨w.heap.size + 1, 0, none⟩) (by simp) _).setCell (p := ⟨w.heap.size + 1, 1, none⟩) (by simp) _).setCell (p := ⟨w.heap.size + 1 + 1, 0, none⟩) (by simp; omega) _).setCell (p := ⟨w.heap.size + 1 + 1, 1, none⟩) (by simp; omega) _⟩
  · by_cases hz : z = -524288
    · simp only [show ¬ ((0 : Int) < 0) by decide, hz, if_true, if_false]
      subst hz
      have HG := Lib.hid (And.intro (((Rb.new w w.heap.size rfl 50 #[.int .i64 0, .int .i64 s, .int .i64 i, .int .u64 n]).alloc (.cells #[.int .i64 0, .int .i64 0] 60)).alloc (.cells #[.int .i64 0, .int .i64 0] 60)) (And.intro ((Rb.new (w.alloc (.cells #[.int .i64 0, .int .i64 s, .int .i64 i, .int .u64 n] 50)) (w.heap.size + 1) (by simp) 60 #[.int .i64 0, .int .i64 0]).alloc (.cells #[.int .i64 0, .int .i64 0] 60)) (Rb.new ((w.alloc (.cells #[.int .i64 0, .int .i64 s, .int .i64 i, .int .u64 n] 50)).alloc (.cells #[.int .i64 0, .int .i64 0] 60)) (w.heap.size + 1 + 1) (by simp) 60 #[.int .i64 0, .int .i64 0])))
      have HB := Lib.hid ((((Below.refl w.heap.size w).alloc (Nat.le_refl _) (.cells #[.int .i64 0, .int .i64 s, .int .i64 i, .int .u64 n] 50)).alloc (by simp) (.cells #[.int .i64 0, .int .i64 0] 60)).alloc (by simp; omega) (.cells #[.int .i64 0, .int .i64 0] 60))
      go_enter Try.func68, Try.ntmps68
      go_wp2_with fail
      go_quiet (first | (go_at_call 101; exact stays rfl (HL.out _)) | (go_at_call 38; exact stays rfl (HN.out _)))
      obtain ⟨b0, b1, b2⟩ : Rb ((((w.alloc (.cells #[.int .i64 0, .int .i64 s, .int .i64 i, .int .u64 n] 50)).alloc (.cells #[.int .i64 0, .int .i64 0] 60)).alloc (.cells #[.int .i64 0, .int .i64 0] 60)).drewN nq) w.heap.size 50 #[.int .i64 0, .int .i64 s, .int .i64 i, .int .u64 n] ∧ Rb ((((w.alloc (.cells #[.int .i64 0, .int .i64 s, .int .i64 i, .int .u64 n] 50)).alloc (.cells #[.int .i64 0, .int .i64 0] 60)).alloc (.cells #[.int .i64 0, .int .i64 0] 60)).drewN nq) (w.heap.size + 1) 60 #[.int .i64 0, .int .i64 0] ∧ Rb ((((w.alloc (.cells #[.int .i64 0, .int .i64 s, .int .i64 i, .int .u64 n] 50)).alloc (.cells #[.int .i64 0, .int .i64 0] 60)).alloc (.cells #[.int .i64 0, .int .i64 0] 60)).drewN nq) (w.heap.size + 1 + 1) 60 #[.int .i64 0, .int .i64 0] := HG.out
      have hb := below_drewN HB.out nq
      generalize (((w.alloc (.cells #[.int .i64 0, .int .i64 s, .int .i64 i, .int .u64 n] 50)).alloc (.cells #[.int .i64 0, .int .i64 0] 60)).alloc (.cells #[.int .i64 0, .int .i64 0] 60)).drewN nq = w3 at *
      obtain ⟨x0, x1, x2, x3⟩ := b0.four
      obtain ⟨y0, y1, f0, f1⟩ := b1.two
      obtain ⟨z0, z1, g0, g1⟩ := b2.two
      have l0 := b0.lt
      have l1 := b1.lt
      have l2 := b2.lt
      clear b0 b1 b2
      go_wp2
      exact bodyPost_ret (v := .tuple #[.agg #[.int .i64 (0), .int .i64 0], .agg #[.int .i64 (0), .int .i64 0]]) (by simp [results, Try.results68, go_sem, y0, y1, z0, z1]) rfl ⟨rfl, (((hb.setCell (p := ⟨w.heap.size + 1, 0, none⟩) (by simp) _).setCell (p := ⟨w.heap.size + 1, 1, none⟩) (by simp) _).setCell (p := ⟨w.heap.size + 1 + 1, 0, none⟩) (by simp; omega) _).setCell (p := ⟨w.heap.size + 1 + 1, 1, none⟩) (by simp; omega) _⟩
    · simp only [show ¬ ((0 : Int) < 0) by decide, hz, if_false]
      have hz1 : (z == -524288) = false := by simpa using hz
      clear hz
      have HG := Lib.hid (And.intro (((Rb.new w w.heap.size rfl 50 #[.int .i64 0, .int .i64 s, .int .i64 i, .int .u64 n]).alloc (.cells #[.int .i64 0, .int .i64 0] 60)).alloc (.cells #[.int .i64 0, .int .i64 0] 60)) (And.intro ((Rb.new (w.alloc (.cells #[.int .i64 0, .int .i64 s, .int .i64 i, .int .u64 n] 50)) (w.heap.size + 1) (by simp) 60 #[.int .i64 0, .int .i64 0]).alloc (.cells #[.int .i64 0, .int .i64 0] 60)) (Rb.new ((w.alloc (.cells #[.int .i64 0, .int .i64 s, .int .i64 i, .int .u64 n] 50)).alloc (.cells #[.int .i64 0, .int .i64 0] 60)) (w.heap.size + 1 + 1) (by simp) 60 #[.int .i64 0, .int .i64 0])))
      have HB := Lib.hid ((((Below.refl w.heap.size w).alloc (Nat.le_refl _) (.cells #[.int .i64 0, .int .i64 s, .int .i64 i, .int .u64 n] 50)).alloc (by simp) (.cells #[.int .i64 0, .int .i64 0] 60)).alloc (by simp; omega) (.cells #[.int .i64 0, .int .i64 0] 60))
      go_enter Try.func68, Try.ntmps68
      go_wp2_with fail
      go_quiet (first | (go_at_call 101; exact stays rfl (HL.out _)) | (go_at_call 38; exact stays rfl (HN.out _)))
      obtain ⟨b0, b1, b2⟩ : Rb ((((w.alloc (.cells #[.int .i64 0, .int .i64 s, .int .i64 i, .int .u64 n] 50)).alloc (.cells #[.int .i64 0, .int .i64 0] 60)).alloc (.cells #[.int .i64 0, .int .i64 0] 60)).drewN nq) w.heap.size 50 #[.int .i64 0, .int .i64 s, .int .i64 i, .int .u64 n] ∧ Rb ((((w.alloc (.cells #[.int .i64 0, .int .i64 s, .int .i64 i, .int .u64 n] 50)).alloc (.cells #[.int .i64 0, .int .i64 0] 60)).alloc (.cells #[.int .i64 0, .int .i64 0] 60)).drewN nq) (w.heap.size + 1) 60 #[.int .i64 0, .int .i64 0] ∧ Rb ((((w.alloc (.cells #[.int .i64 0, .int .i64 s, .int .i64 i, .int .u64 n] 50)).alloc (.cells #[.int .i64 0, .int .i64 0] 60)).alloc (.cells #[.int .i64 0, .int .i64 0] 60)).drewN nq) (w.heap.size + 1 + 1) 60 #[.int .i64 0, .int .i64 0] := HG.out
      have hb := below_drewN HB.out nq
      generalize (((w.alloc (.cells #[.int .i64 0, .int .i64 s, .int .i64 i, .int .u64 n] 50)).alloc (.cells #[.int .i64 0, .int .i64 0] 60)).alloc (.cells #[.int .i64 0, .int .i64 0] 60)).drewN nq = w3 at *
      obtain ⟨x0, x1, x2, x3⟩ := b0.four
      obtain ⟨y0, y1, f0, f1⟩ := b1.two
      obtain ⟨z0, z1, g0, g1⟩ := b2.two
      have l0 := b0.lt
      have l1 := b1.lt
      have l2 := b2.lt
      clear b0 b1 b2
      go_wp2
      exact bodyPost_ret (v := .tuple #[.agg #[.int .i64 (-1), .int .i64 z], .agg #[.int .i64 (1), .int .i64 z]]) (by simp [results, Try.results68, go_sem, y0, y1, z0, z1]) rfl ⟨rfl, (((hb.setCell (p := ⟨w.heap.size + 1, 0, none⟩) (by simp) _).setCell (p := ⟨w.heap.size + 1, 1, none⟩) (by simp) _).setCell (p := ⟨w.heap.size + 1 + 1, 0, none⟩) (by simp; omega) _).setCell (p := ⟨w.heap.size + 1 + 1, 1, none⟩) (by simp; omega) _⟩
  · simp only [show ((0 : Int) < 1) by decide, if_true]
    have HG := Lib.hid (And.intro (((Rb.new w w.heap.size rfl 50 #[.int .i64 1, .int .i64 s, .int .i64 i, .int .u64 n]).alloc (.cells #[.int .i64 0, .int .i64 0] 60)).alloc (.cells #[.int .i64 0, .int .i64 0] 60)) (And.intro ((Rb.new (w.alloc (.cells #[.int .i64 1, .int .i64 s, .int .i64 i, .int .u64 n] 50)) (w.heap.size + 1) (by simp) 60 #[.int .i64 0, .int .i64 0]).alloc (.cells #[.int .i64 0, .int .i64 0] 60)) (Rb.new ((w.alloc (.cells #[.int .i64 1, .int .i64 s, .int .i64 i, .int .u64 n] 50)).alloc (.cells #[.int .i64 0, .int .i64 0] 60)) (w.heap.size + 1 + 1) (by simp) 60 #[.int .i64 0, .int .i64 0])))
    have HB := Lib.hid ((((Below.refl w.heap.size w).alloc (Nat.le_refl _) (.cells #[.int .i64 1, .int .i64 s, .int .i64 i, .int .u64 n] 50)).alloc (by simp) (.cells #[.int .i64 0, .int .i64 0] 60)).alloc (by simp; omega) (.cells #[.int .i64 0, .int .i64 0] 60))
    go_enter Try.func68, Try.ntmps68
    go_wp2_with fail
    go_quiet (first | (go_at_call 101; exact stays rfl (HL.out _)) | (go_at_call 38; exact stays rfl (HN.out _)))
    obtain ⟨b0, b1, b2⟩ : Rb ((((w.alloc (.cells #[.int .i64 1, .int .i64 s, .int .i64 i, .int .u64 n] 50)).alloc (.cells #[.int .i64 0, .int .i64 0] 60)).alloc (.cells #[.int .i64 0, .int .i64 0] 60)).drewN nq) w.heap.size 50 #[.int .i64 1, .int .i64 s, .int .i64 i, .int .u64 n] ∧ Rb ((((w.alloc (.cells #[.int .i64 1, .int .i64 s, .int .i64 i, .int .u64 n] 50)).alloc (.cells #[.int .i64 0, .int .i64 0] 60)).alloc (.cells #[.int .i64 0, .int .i64 0] 60)).drewN nq) (w.heap.size + 1) 60 #[.int .i64 0, .int .i64 0] ∧ Rb ((((w.alloc (.cells #[.int .i64 1, .int .i64 s, .int .i64 i, .int .u64 n] 50)).alloc (.cells #[.int .i64 0, .int .i64 0] 60)).alloc (.cells #[.int .i64 0, .int .i64 0] 60)).drewN nq) (w.heap.size + 1 + 1) 60 #[.int .i64 0, .int .i64 0] := HG.out
    have hb := below_drewN HB.out nq
    generalize (((w.alloc (.cells #[.int .i64 1, .int .i64 s, .int .i64 i, .int .u64 n] 50)).alloc (.cells #[.int .i64 0, .int .i64 0] 60)).alloc (.cells #[.int .i64 0, .int .i64 0] 60)).drewN nq = w3 at *
    obtain ⟨x0, x1, x2, x3⟩ := b0.four
    obtain ⟨y0, y1, f0, f1⟩ := b1.two
    obtain ⟨z0, z1, g0, g1⟩ := b2.two
    have l0 := b0.lt
    have l1 := b1.lt
    have l2 := b2.lt
    clear b0 b1 b2
    go_wp2
    exact bodyPost_ret (v := .tuple #[.agg #[.int .i64 (1), .int .i64 L], .agg #[.int .i64 (1), .int .i64 U]]) (by simp [results, Try.results68, go_sem, y0, y1, z0, z1]) rfl ⟨rfl, (((hb.setCell (p := ⟨w.heap.size + 1, 0, none⟩) (by simp) _).setCell (p := ⟨w.heap.size + 1, 1, none⟩) (by simp) _).setCell (p := ⟨w.heap.size + 1 + 1, 0, none⟩) (by simp; omega) _).setCell (p := ⟨w.heap.size + 1 + 1, 1, none⟩) (by simp; omega) _⟩
end Go.Proofs.Ytbibhjcmdehdbaa
