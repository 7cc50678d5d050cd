/- The document's Sum; Rise and Sum of short lists, both. -/
import Derived.Test.YtbibhjcmdehdbaaRfQ
namespace Go.Proofs.Ytbibhjcmdehdbaa
open Go.RowKit Go.Sort Go.Maps
set_option linter.unusedVariables false

/-- where new blocks between two worlds lie, what is read of it isn't -/
def Fr (w00 w : World) (A : Option Addr) (l : List (Int × Int)) : Prop := l.length = 0 ∨ ∀ a, A = some a → ∀ g, w00.heap.size ≤ g → g < w.heap.size → a.block ≠ g
theorem Fr.new {w00 w : World} {A : Option Addr} {l : List (Int × Int)} (h : NewA w A) : Fr w00 w A l := .inr fun a ha g _ hg => by have := h a ha; omega
theorem Fr.old {w00 w : World} {A : Option Addr} {l : List (Int × Int)} (h : Bk w00 A l) : Fr w00 w A l := by
  by_cases h0 : l.length = 0
  · exact .inl h0
  · exact .inr fun a ha g hg _ => (h.ne_lt' hg).resolve_left h0 a ha
def RetS (w00 w : World) (r : HV) (E : Int) (e : Ending) (w' : World) : Prop :=
  ∃ (A B : Option Addr) (c d : Nat), e = .returned (.tuple #[hvA r A B c d, .int .i64 E]) ∧ Bk w' A r.P ∧ Bk w' B r.Q ∧ Below w.heap.size w w' ∧ Fr w00 w A r.P ∧ Fr w00 w B r.Q
theorem RetH.s {w00 w : World} {r : HV} {E : Int} {e : Ending} {w' : World} (h : RetH w r E e w') : RetS w00 w r E e w' := by
  obtain ⟨A, B, c, d, h1, h2, h3, h4, h5, h6⟩ := h
  exact ⟨A, B, c, d, h1, h2, h3, h4, .new h5, .new h6⟩
def SumF : List HV → HV → Int → Prop
  | h0 :: rest, o, E => SumR h0 rest o E
  | [], o, E => o = zeroV ∧ E = 30
theorem SumF.unique {l : List HV} {o o' : HV} {E E' : Int} (h : SumF l o E) (k : SumF l o' E') : o = o' ∧ E = E' := by
  match l, h, k with
  | [], h, k => exact ⟨h.1.trans k.1.symm, h.2.trans k.2.symm⟩
  | h0 :: rest, h, k => exact SumR.unique h k
set_option maxHeartbeats 1000000 in
set_option maxRecDepth 100000 in
theorem refrise_short (D : Option Addr) (n c0 : Nat) (w : World) (hn : n < 2) :
    Calls Try.prog 21 #[.slice D n c0] w (RetH w zeroV 30) := by
  have hx0 := Box.new w (.int .i64 0) (.int .i64 0) (.int .i64 0) (.int .u64 0) (.int .u64 0) (.int .i64 0) (.slice none 0 0) (.slice none 0 0)
  have hb0 := (Below.refl w.heap.size w).alloc (Nat.le_refl _) (.cells #[.int .i64 0, .int .i64 0, .int .i64 0, .int .u64 0, .int .u64 0, .int .i64 0, .slice none 0 0, .slice none 0 0] 25)
  have HX0 := Lib.hid hx0
  have HB0 := Lib.hid hb0
  clear hx0 hb0
  have hn0 : (0 : Int) ≤ n := by omega
  have hn1 : decide ((n : Int) < 2) = true := by simp; omega
  go_enter Try.func21, Try.ntmps21
  go_upto_region 1 with fail
  obtain ⟨g0, hg0⟩ : ∃ g, w.heap.size = g := ⟨_, rfl⟩
  rw [hg0] at HX0 ⊢
  have HG0 := Lib.hid hg0
  clear hg0
  generalize w.alloc (.cells #[.int .i64 0, .int .i64 0, .int .i64 0, .int .u64 0, .int .u64 0, .int .i64 0, .slice none 0 0, .slice none 0 0] 25) = w0 at *
  have HE := Lib.hid (show RetH w zeroV 30 (.returned (.tuple #[.agg #[.int .i64 0, .int .i64 0, .int .i64 0, .int .u64 0, .int .u64 0, .int .i64 0, .slice none 0 0, .slice none 0 0], .int .i64 30])) (set8 w0 g0 (.int .i64 0) (.int .i64 0) (.int .i64 0) (.int .u64 0) (.int .u64 0) (.int .i64 0) (.slice none 0 0) (.slice none 0 0)) from (RetH.zero (below_set8 HB0.out (by have := HG0.out; omega) _ _ _ _ _ _ _ _)))
  have HF := Lib.hid (HX0.out.put8 (.int .i64 0) (.int .i64 0) (.int .i64 0) (.int .u64 0) (.int .u64 0) (.int .i64 0) (.slice none 0 0) (.slice none 0 0))
  obtain ⟨z0, z1, z2, z3, z4, z5, z6, z7⟩ := HX0.out.cells
  obtain ⟨f0, f1, f2, f3, f4, f5, f6, f7⟩ := HX0.out.frozen
  have l0 := HX0.out.lt
  go_wp2_with fail
  clear z0 z1 z2 z3 z4 z5 z6 z7 f0 f1 f2 f3 f4 f5 f6 f7 l0
  generalize hW : ((((((((w0.setCell ⟨g0, 0, none⟩ (.int .i64 0)).setCell ⟨g0, 1, none⟩ (.int .i64 0)).setCell ⟨g0, 2, none⟩ (.int .i64 0)).setCell ⟨g0, 3, none⟩ (.int .u64 0)).setCell ⟨g0, 4, none⟩ (.int .u64 0)).setCell ⟨g0, 5, none⟩ (.int .i64 0)).setCell ⟨g0, 6, none⟩ (.slice none 0 0)).setCell ⟨g0, 7, none⟩ (.slice none 0 0)) = w9
  have hW' : (set8 w0 (g0) (.int .i64 0) (.int .i64 0) (.int .i64 0) (.int .u64 0) (.int .u64 0) (.int .i64 0) (.slice none 0 0) (.slice none 0 0)) = w9 := hW
  rw [hW'] at HE HF
  obtain ⟨z0, z1, z2, z3, z4, z5, z6, z7⟩ := HF.out.cells
  exact bodyPost_ret (v := .tuple #[.agg #[.int .i64 0, .int .i64 0, .int .i64 0, .int .u64 0, .int .u64 0, .int .i64 0, .slice none 0 0, .slice none 0 0], .int .i64 30]) (by simp [results, Try.results21, go_sem, z0, z1, z2, z3, z4, z5, z6, z7]) rfl HE.out

set_option maxHeartbeats 1000000 in
set_option maxRecDepth 100000 in
theorem rise_short (D : Option Addr) (n c0 : Nat) (w : World) (hn : n < 2) :
    Calls Try.prog 20 #[.slice D n c0] w (RetH w zeroV 30) := by
  have hx0 := Box.new w (.int .i64 0) (.int .i64 0) (.int .i64 0) (.int .u64 0) (.int .u64 0) (.int .i64 0) (.slice none 0 0) (.slice none 0 0)
  have hb0 := (Below.refl w.heap.size w).alloc (Nat.le_refl _) (.cells #[.int .i64 0, .int .i64 0, .int .i64 0, .int .u64 0, .int .u64 0, .int .i64 0, .slice none 0 0, .slice none 0 0] 25)
  have HX0 := Lib.hid hx0
  have HB0 := Lib.hid hb0
  clear hx0 hb0
  have hn0 : (0 : Int) ≤ n := by omega
  have hn1 : decide ((n : Int) < 2) = true := by simp; omega
  go_enter Try.func20, Try.ntmps20
  go_upto_region 1 with fail
  obtain ⟨g0, hg0⟩ : ∃ g, w.heap.size = g := ⟨_, rfl⟩
  rw [hg0] at HX0 ⊢
  have HG0 := Lib.hid hg0
  clear hg0
  generalize w.alloc (.cells #[.int .i64 0, .int .i64 0, .int .i64 0, .int .u64 0, .int .u64 0, .int .i64 0, .slice none 0 0, .slice none 0 0] 25) = w0 at *
  have HE := Lib.hid (show RetH w zeroV 30 (.returned (.tuple #[.agg #[.int .i64 0, .int .i64 0, .int .i64 0, .int .u64 0, .int .u64 0, .int .i64 0, .slice none 0 0, .slice none 0 0], .int .i64 30])) (set8 w0 g0 (.int .i64 0) (.int .i64 0) (.int .i64 0) (.int .u64 0) (.int .u64 0) (.int .i64 0) (.slice none 0 0) (.slice none 0 0)) from (RetH.zero (below_set8 HB0.out (by have := HG0.out; omega) _ _ _ _ _ _ _ _)))
  have HF := Lib.hid (HX0.out.put8 (.int .i64 0) (.int .i64 0) (.int .i64 0) (.int .u64 0) (.int .u64 0) (.int .i64 0) (.slice none 0 0) (.slice none 0 0))
  obtain ⟨z0, z1, z2, z3, z4, z5, z6, z7⟩ := HX0.out.cells
  obtain ⟨f0, f1, f2, f3, f4, f5, f6, f7⟩ := HX0.out.frozen
  have l0 := HX0.out.lt
  go_wp2_with fail
  clear z0 z1 z2 z3 z4 z5 z6 z7 f0 f1 f2 f3 f4 f5 f6 f7 l0
  generalize hW : ((((((((w0.setCell ⟨g0, 0, none⟩ (.int .i64 0)).setCell ⟨g0, 1, none⟩ (.int .i64 0)).setCell ⟨g0, 2, none⟩ (.int .i64 0)).setCell ⟨g0, 3, none⟩ (.int .u64 0)).setCell ⟨g0, 4, none⟩ (.int .u64 0)).setCell ⟨g0, 5, none⟩ (.int .i64 0)).setCell ⟨g0, 6, none⟩ (.slice none 0 0)).setCell ⟨g0, 7, none⟩ (.slice none 0 0)) = w9
  have hW' : (set8 w0 (g0) (.int .i64 0) (.int .i64 0) (.int .i64 0) (.int .u64 0) (.int .u64 0) (.int .i64 0) (.slice none 0 0) (.slice none 0 0)) = w9 := hW
  rw [hW'] at HE HF
  obtain ⟨z0, z1, z2, z3, z4, z5, z6, z7⟩ := HF.out.cells
  exact bodyPost_ret (v := .tuple #[.agg #[.int .i64 0, .int .i64 0, .int .i64 0, .int .u64 0, .int .u64 0, .int .i64 0, .slice none 0 0, .slice none 0 0], .int .i64 30]) (by simp [results, Try.results20, go_sem, z0, z1, z2, z3, z4, z5, z6, z7]) rfl HE.out

set_option maxHeartbeats 1000000 in
set_option maxRecDepth 100000 in
theorem refsum_none (D : Option Addr) (n c0 : Nat) (w : World) (hn : n = 0) :
    Calls Try.prog 23 #[.slice D n c0] w (RetH w zeroV 30) := by
  have hx0 := Box.new w (.int .i64 0) (.int .i64 0) (.int .i64 0) (.int .u64 0) (.int .u64 0) (.int .i64 0) (.slice none 0 0) (.slice none 0 0)
  have hb0 := (Below.refl w.heap.size w).alloc (Nat.le_refl _) (.cells #[.int .i64 0, .int .i64 0, .int .i64 0, .int .u64 0, .int .u64 0, .int .i64 0, .slice none 0 0, .slice none 0 0] 25)
  have HX0 := Lib.hid hx0
  have HB0 := Lib.hid hb0
  clear hx0 hb0
  have hn0 : (0 : Int) ≤ n := by omega
  subst hn
  go_enter Try.func23, Try.ntmps23
  go_upto_region 1 with fail
  obtain ⟨g0, hg0⟩ : ∃ g, w.heap.size = g := ⟨_, rfl⟩
  rw [hg0] at HX0 ⊢
  have HG0 := Lib.hid hg0
  clear hg0
  generalize w.alloc (.cells #[.int .i64 0, .int .i64 0, .int .i64 0, .int .u64 0, .int .u64 0, .int .i64 0, .slice none 0 0, .slice none 0 0] 25) = w0 at *
  have HE := Lib.hid (show RetH w zeroV 30 (.returned (.tuple #[.agg #[.int .i64 0, .int .i64 0, .int .i64 0, .int .u64 0, .int .u64 0, .int .i64 0, .slice none 0 0, .slice none 0 0], .int .i64 30])) (set8 w0 g0 (.int .i64 0) (.int .i64 0) (.int .i64 0) (.int .u64 0) (.int .u64 0) (.int .i64 0) (.slice none 0 0) (.slice none 0 0)) from (RetH.zero (below_set8 HB0.out (by have := HG0.out; omega) _ _ _ _ _ _ _ _)))
  have HF := Lib.hid (HX0.out.put8 (.int .i64 0) (.int .i64 0) (.int .i64 0) (.int .u64 0) (.int .u64 0) (.int .i64 0) (.slice none 0 0) (.slice none 0 0))
  obtain ⟨z0, z1, z2, z3, z4, z5, z6, z7⟩ := HX0.out.cells
  obtain ⟨f0, f1, f2, f3, f4, f5, f6, f7⟩ := HX0.out.frozen
  have l0 := HX0.out.lt
  go_wp2_with fail
  clear z0 z1 z2 z3 z4 z5 z6 z7 f0 f1 f2 f3 f4 f5 f6 f7 l0
  generalize hW : ((((((((w0.setCell ⟨g0, 0, none⟩ (.int .i64 0)).setCell ⟨g0, 1, none⟩ (.int .i64 0)).setCell ⟨g0, 2, none⟩ (.int .i64 0)).setCell ⟨g0, 3, none⟩ (.int .u64 0)).setCell ⟨g0, 4, none⟩ (.int .u64 0)).setCell ⟨g0, 5, none⟩ (.int .i64 0)).setCell ⟨g0, 6, none⟩ (.slice none 0 0)).setCell ⟨g0, 7, none⟩ (.slice none 0 0)) = w9
  have hW' : (set8 w0 (g0) (.int .i64 0) (.int .i64 0) (.int .i64 0) (.int .u64 0) (.int .u64 0) (.int .i64 0) (.slice none 0 0) (.slice none 0 0)) = w9 := hW
  rw [hW'] at HE HF
  obtain ⟨z0, z1, z2, z3, z4, z5, z6, z7⟩ := HF.out.cells
  exact bodyPost_ret (v := .tuple #[.agg #[.int .i64 0, .int .i64 0, .int .i64 0, .int .u64 0, .int .u64 0, .int .i64 0, .slice none 0 0, .slice none 0 0], .int .i64 30]) (by simp [results, Try.results23, go_sem, z0, z1, z2, z3, z4, z5, z6, z7]) rfl HE.out

set_option maxHeartbeats 1000000 in
set_option maxRecDepth 100000 in
theorem sum_none (D : Option Addr) (n c0 : Nat) (w : World) (hn : n = 0) :
    Calls Try.prog 22 #[.slice D n c0] w (RetH w zeroV 30) := by
  have hx0 := Box.new w (.int .i64 0) (.int .i64 0) (.int .i64 0) (.int .u64 0) (.int .u64 0) (.int .i64 0) (.slice none 0 0) (.slice none 0 0)
  have hb0 := (Below.refl w.heap.size w).alloc (Nat.le_refl _) (.cells #[.int .i64 0, .int .i64 0, .int .i64 0, .int .u64 0, .int .u64 0, .int .i64 0, .slice none 0 0, .slice none 0 0] 25)
  have HX0 := Lib.hid hx0
  have HB0 := Lib.hid hb0
  clear hx0 hb0
  have hn0 : (0 : Int) ≤ n := by omega
  subst hn
  go_enter Try.func22, Try.ntmps22
  go_upto_region 1 with fail
  obtain ⟨g0, hg0⟩ : ∃ g, w.heap.size = g := ⟨_, rfl⟩
  rw [hg0] at HX0 ⊢
  have HG0 := Lib.hid hg0
  clear hg0
  generalize w.alloc (.cells #[.int .i64 0, .int .i64 0, .int .i64 0, .int .u64 0, .int .u64 0, .int .i64 0, .slice none 0 0, .slice none 0 0] 25) = w0 at *
  have HE := Lib.hid (show RetH w zeroV 30 (.returned (.tuple #[.agg #[.int .i64 0, .int .i64 0, .int .i64 0, .int .u64 0, .int .u64 0, .int .i64 0, .slice none 0 0, .slice none 0 0], .int .i64 30])) (set8 w0 g0 (.int .i64 0) (.int .i64 0) (.int .i64 0) (.int .u64 0) (.int .u64 0) (.int .i64 0) (.slice none 0 0) (.slice none 0 0)) from (RetH.zero (below_set8 HB0.out (by have := HG0.out; omega) _ _ _ _ _ _ _ _)))
  have HF := Lib.hid (HX0.out.put8 (.int .i64 0) (.int .i64 0) (.int .i64 0) (.int .u64 0) (.int .u64 0) (.int .i64 0) (.slice none 0 0) (.slice none 0 0))
  obtain ⟨z0, z1, z2, z3, z4, z5, z6, z7⟩ := HX0.out.cells
  obtain ⟨f0, f1, f2, f3, f4, f5, f6, f7⟩ := HX0.out.frozen
  have l0 := HX0.out.lt
  go_wp2_with fail
  clear z0 z1 z2 z3 z4 z5 z6 z7 f0 f1 f2 f3 f4 f5 f6 f7 l0
  generalize hW : ((((((((w0.setCell ⟨g0, 0, none⟩ (.int .i64 0)).setCell ⟨g0, 1, none⟩ (.int .i64 0)).setCell ⟨g0, 2, none⟩ (.int .i64 0)).setCell ⟨g0, 3, none⟩ (.int .u64 0)).setCell ⟨g0, 4, none⟩ (.int .u64 0)).setCell ⟨g0, 5, none⟩ (.int .i64 0)).setCell ⟨g0, 6, none⟩ (.slice none 0 0)).setCell ⟨g0, 7, none⟩ (.slice none 0 0)) = w9
  have hW' : (set8 w0 (g0) (.int .i64 0) (.int .i64 0) (.int .i64 0) (.int .u64 0) (.int .u64 0) (.int .i64 0) (.slice none 0 0) (.slice none 0 0)) = w9 := hW
  rw [hW'] at HE HF
  obtain ⟨z0, z1, z2, z3, z4, z5, z6, z7⟩ := HF.out.cells
  exact bodyPost_ret (v := .tuple #[.agg #[.int .i64 0, .int .i64 0, .int .i64 0, .int .u64 0, .int .u64 0, .int .i64 0, .slice none 0 0, .slice none 0 0], .int .i64 30]) (by simp [results, Try.results22, go_sem, z0, z1, z2, z3, z4, z5, z6, z7]) rfl HE.out

set_option maxHeartbeats 1000000 in
set_option maxRecDepth 100000 in
theorem rise_kind (b off c0 n : Nat) (hs : List HV) (w : World) (hn : n = hs.length) (hcap : n ≤ c0) (h2 : 2 ≤ n) (h : Hl w (some ⟨b, off, none⟩) hs) (hk : anyK hs = true) :
    Calls Try.prog 20 #[.slice (some ⟨b, off, none⟩) n c0] w (RetH w zeroV 25) := by
  have hx0 := Box.new w (.int .i64 0) (.int .i64 0) (.int .i64 0) (.int .u64 0) (.int .u64 0) (.int .i64 0) (.slice none 0 0) (.slice none 0 0)
  have hb0 := (Below.refl w.heap.size w).alloc (Nat.le_refl _) (.cells #[.int .i64 0, .int .i64 0, .int .i64 0, .int .u64 0, .int .u64 0, .int .i64 0, .slice none 0 0, .slice none 0 0] 25)
  have hn3 : decide ((n : Int) < 2) = false := by simp; omega
  have HX0 := Lib.hid hx0
  have HB0 := Lib.hid hb0
  have HH := Lib.hid h
  have HK := Lib.hid hk
  have HN := Lib.hid hn
  clear hx0 hb0 h hk hn
  go_enter Try.func20, Try.ntmps20
  go_wp2_with fail
  obtain ⟨g0, hg0⟩ : ∃ g, w.heap.size = g := ⟨_, rfl⟩
  rw [hg0] at HX0 ⊢
  have HG0 := Lib.hid hg0
  clear hg0
  generalize w.alloc (.cells #[.int .i64 0, .int .i64 0, .int .i64 0, .int .u64 0, .int .u64 0, .int .i64 0, .slice none 0 0, .slice none 0 0] 25) = w0 at *
  refine (contains_any b off c0 n hs w0 HN.out (HH.out.below HB0.out)).mono ?_
  rw [HK.out]
  rintro e w1 ⟨rfl, hb⟩
  have HB1 := Lib.hid (HB0.out.trans (hb.mono HB0.out.size))
  have HX1 := Lib.hid (HX0.out.below hb)
  clear hb HX0 HB0
  have HE := Lib.hid (show RetH w zeroV 25 (.returned (.tuple #[.agg #[.int .i64 0, .int .i64 0, .int .i64 0, .int .u64 0, .int .u64 0, .int .i64 0, .slice none 0 0, .slice none 0 0], .int .i64 25])) (set8 w1 g0 (.int .i64 0) (.int .i64 0) (.int .i64 0) (.int .u64 0) (.int .u64 0) (.int .i64 0) (.slice none 0 0) (.slice none 0 0)) from (RetH.zero (below_set8 HB1.out (by have := HG0.out; omega) _ _ _ _ _ _ _ _)))
  have HF := Lib.hid (HX1.out.put8 (.int .i64 0) (.int .i64 0) (.int .i64 0) (.int .u64 0) (.int .u64 0) (.int .i64 0) (.slice none 0 0) (.slice none 0 0))
  obtain ⟨z0, z1, z2, z3, z4, z5, z6, z7⟩ := HX1.out.cells
  obtain ⟨f0, f1, f2, f3, f4, f5, f6, f7⟩ := HX1.out.frozen
  have l0 := HX1.out.lt
  go_wp2_with fail
  clear z0 z1 z2 z3 z4 z5 z6 z7 f0 f1 f2 f3 f4 f5 f6 f7 l0
  generalize hW : ((((((((w1.setCell ⟨g0, 0, none⟩ (.int .i64 0)).setCell ⟨g0, 1, none⟩ (.int .i64 0)).setCell ⟨g0, 2, none⟩ (.int .i64 0)).setCell ⟨g0, 3, none⟩ (.int .u64 0)).setCell ⟨g0, 4, none⟩ (.int .u64 0)).setCell ⟨g0, 5, none⟩ (.int .i64 0)).setCell ⟨g0, 6, none⟩ (.slice none 0 0)).setCell ⟨g0, 7, none⟩ (.slice none 0 0)) = w9
  have hW' : (set8 w1 (g0) (.int .i64 0) (.int .i64 0) (.int .i64 0) (.int .u64 0) (.int .u64 0) (.int .i64 0) (.slice none 0 0) (.slice none 0 0)) = w9 := hW
  rw [hW'] at HE HF
  obtain ⟨z0, z1, z2, z3, z4, z5, z6, z7⟩ := HF.out.cells
  exact bodyPost_ret (v := .tuple #[.agg #[.int .i64 0, .int .i64 0, .int .i64 0, .int .u64 0, .int .u64 0, .int .i64 0, .slice none 0 0, .slice none 0 0], .int .i64 25]) (by simp [results, Try.results20, go_sem, z0, z1, z2, z3, z4, z5, z6, z7]) rfl HE.out

def SusRel (w00 w : World) (g0 g1 : Nat) (h0 : HV) (rest : List HV) (k : Nat) (wr : World) : Prop :=
  ∃ (x : HV) (A1 B1 : Option Addr) (c1 d1 : Nat), (Box wr g0 (.int .i64 0) (.int .i64 0) (.int .i64 0) (.int .u64 0) (.int .u64 0) (.int .i64 0) (.slice none 0 0) (.slice none 0 0) ∧ Box wr g1 (.int .i64 x.k) (.int .i64 x.s) (.int .i64 x.z) (.int .u64 x.zc) (.int .u64 x.ct) (.int .i64 x.sm) (.slice A1 x.P.length c1) (.slice B1 x.Q.length d1)) ∧ (Bk wr A1 x.P ∧ Bk wr B1 x.Q) ∧ ((x.P.length = 0 ∨ ∀ a, A1 = some a → a.block ≠ g0 ∧ a.block ≠ g1) ∧ (x.Q.length = 0 ∨ ∀ a, B1 = some a → a.block ≠ g0 ∧ a.block ≠ g1)) ∧ (Fr w00 w A1 x.P ∧ Fr w00 w B1 x.Q) ∧ Ok x ∧ (∀ o E, SumR x (rest.drop k) o E → SumR h0 rest o E) ∧ Below w.heap.size w wr
theorem two_ne {w : World} {A : Option Addr} {l : List (Int × Int)} (h : Bk w A l) {g0 g1 : Nat} (h0 : w.heap.size ≤ g0) (h1 : w.heap.size ≤ g1) : l.length = 0 ∨ ∀ a, A = some a → a.block ≠ g0 ∧ a.block ≠ g1 := by
  rcases h.ne_lt' h0 with k | k
  · exact .inl k
  · rcases h.ne_lt' h1 with k' | k'
    · exact .inl k'
    · exact .inr fun a ha => ⟨k a ha, k' a ha⟩
set_option maxHeartbeats 4000000 in
set_option maxRecDepth 100000 in
theorem refsum_h (b off c0 n : Nat) (h0 : HV) (rest : List HV) (w00 w : World) (hb00 : Below w00.heap.size w00 w) (hn : n = rest.length + 1) (hcap : n ≤ c0) (h : Hl w00 (some ⟨b, off, none⟩) (h0 :: rest)) (ho : ∀ x ∈ h0 :: rest, Ok x) :
    Calls Try.prog 23 #[.slice (some ⟨b, off, none⟩) n c0] w (fun e w' => ∃ o E, SumR h0 rest o E ∧ RetS w00 w o E e w') := by
  have HN := Lib.hid hn
  have hn1 : (n : Int) ≤ 1000000 := by have := h.1; simp at this; omega
  have hn2 : (0 : Int) < n := by omega
  have hn3 : ((n : Int) == 0) = false := by simp; omega
  have hc1 : (n : Int) ≤ c0 := by omega
  have HO := Lib.hid ho
  have HH := Lib.hid (h.below hb00)
  obtain ⟨A1, B1, c1, d1, ⟨p0, p1, p2, p3, p4, p5, p6, p7⟩, hA0, hB0⟩ := hl_cells h (j := 0) (x := h0) rfl
  simp only [Nat.zero_mul, Nat.add_zero] at p0 p1 p2 p3 p4 p5 p6 p7
  have HFr := Lib.hid (show Fr w00 w A1 h0.P ∧ Fr w00 w B1 h0.Q from ⟨.old hA0, .old hB0⟩)
  have q0 := Kept.of_below hb00 _ _ p0
  have q1 := Kept.of_below hb00 _ _ p1
  have q2 := Kept.of_below hb00 _ _ p2
  have q3 := Kept.of_below hb00 _ _ p3
  have q4 := Kept.of_below hb00 _ _ p4
  have q5 := Kept.of_below hb00 _ _ p5
  have q6 := Kept.of_below hb00 _ _ p6
  have q7 := Kept.of_below hb00 _ _ p7
  have hA := hA0.below hb00
  have hB := hB0.below hb00
  clear p0 p1 p2 p3 p4 p5 p6 p7 hA0 hB0 hb00
  have hlen := Lib.hid (show n = (h0 :: rest).length by simp; exact hn)
  clear hn ho h
  have hb0 := (Below.refl w.heap.size w).alloc (Nat.le_refl _) (.cells #[.int .i64 0, .int .i64 0, .int .i64 0, .int .u64 0, .int .u64 0, .int .i64 0, .slice none 0 0, .slice none 0 0] 25)
  have hx0 := Box.new w (.int .i64 0) (.int .i64 0) (.int .i64 0) (.int .u64 0) (.int .u64 0) (.int .i64 0) (.slice none 0 0) (.slice none 0 0)
  have HX0 := Lib.hid hx0
  have HB0 := Lib.hid hb0
  have HA0 := Lib.hid (And.intro hA hB)
  have q0' := Kept.of_below hb0 _ _ q0
  have q1' := Kept.of_below hb0 _ _ q1
  have q2' := Kept.of_below hb0 _ _ q2
  have q3' := Kept.of_below hb0 _ _ q3
  have q4' := Kept.of_below hb0 _ _ q4
  have q5' := Kept.of_below hb0 _ _ q5
  have q6' := Kept.of_below hb0 _ _ q6
  have q7' := Kept.of_below hb0 _ _ q7
  clear hb0 hx0 hA hB q0 q1 q2 q3 q4 q5 q6 q7
  go_enter Try.func23, Try.ntmps23
  go_upto_region 1 with fail
  obtain ⟨g0, hg0⟩ : ∃ g, w.heap.size = g := ⟨_, rfl⟩
  rw [hg0] at HX0 ⊢
  have HG0 := Lib.hid hg0
  clear hg0
  generalize w.alloc (.cells #[.int .i64 0, .int .i64 0, .int .i64 0, .int .u64 0, .int .u64 0, .int .i64 0, .slice none 0 0, .slice none 0 0] 25) = w0 at *
  have hlq := block_lt_of_cell q0'
  simp only at hlq
  go_upto_region 4 with fail
  clear q0' q1' q2' q3' q4' q5' q6' q7' hlq
  have hw : Below w0.heap.size w0 (w0.alloc (.cells #[.int .i64 h0.k, .int .i64 h0.s, .int .i64 h0.z, .int .u64 h0.zc, .int .u64 h0.ct, .int .i64 h0.sm, .slice A1 h0.P.length c1, .slice B1 h0.Q.length d1] 25)) := (Below.refl _ _).alloc (Nat.le_refl _) _
  have HX3 := Lib.hid (And.intro (HX0.out.below hw) (Box.new w0 (.int .i64 h0.k) (.int .i64 h0.s) (.int .i64 h0.z) (.int .u64 h0.zc) (.int .u64 h0.ct) (.int .i64 h0.sm) (.slice A1 h0.P.length c1) (.slice B1 h0.Q.length d1)))
  have HB3 := Lib.hid (HB0.out.trans (hw.mono HB0.out.size))
  have HG1 := Lib.hid (show g0 < w0.heap.size from HX0.out.lt)
  clear hw HX0
  obtain ⟨g1, hg1⟩ : ∃ g, w0.heap.size = g := ⟨_, rfl⟩
  rw [hg1] at HX3 HG1 ⊢
  clear hg1
  generalize w0.alloc (.cells #[.int .i64 h0.k, .int .i64 h0.s, .int .i64 h0.z, .int .u64 h0.zc, .int .u64 h0.ct, .int .i64 h0.sm, .slice A1 h0.P.length c1, .slice B1 h0.Q.length d1] 25) = w3 at *
  obtain ⟨M, hM⟩ : ∃ M, n - 1 = M := ⟨_, rfl⟩
  have HM := Lib.hid (show M = rest.length by have := HN.out; omega)
  have HM1 := Lib.hid (show n = M + 1 by have := HN.out; omega)
  clear hM
  have HR0 := Lib.hid (show SusRel w00 w g0 g1 h0 rest 0 w3 from ⟨h0, A1, B1, c1, d1, HX3.out, ⟨HA0.out.1.below HB3.out, HA0.out.2.below HB3.out⟩, ⟨two_ne HA0.out.1 (by have := HG0.out; omega) (by have := HG0.out; have := HG1.out; omega), two_ne HA0.out.2 (by have := HG0.out; omega) (by have := HG0.out; have := HG1.out; omega)⟩, HFr.out, HO.out h0 (by simp), fun o E hh => hh, HB3.out⟩)
  clear HX3 HB3
  go_wp2_with fail
  go_loopw [5] (fun i wr => ∃ k kk : Nat, Hid (kk = k + 1) ∧ k ≤ M ∧ i = .int .i64 kk ∧ Hid (SusRel w00 w g0 g1 h0 rest k wr)) (fun i _ => M + 1 - (intOf i).toNat)
  case atStart => exact ⟨0, 1, Lib.hid rfl, by omega, rfl, HR0⟩
  case round =>
    obtain ⟨k, kk, HKK, hk, rfl, HR⟩ := hrel
    clear HR0
    obtain ⟨x, A1, B1, c1, d1, hX, hA, hNe, hFr, hO, hS, hB⟩ := HR.out
    have HFx := Lib.hid hFr
    clear hFr
    have HXr := Lib.hid hX
    have HAr := Lib.hid hA
    have HEr := Lib.hid hNe
    have HOr := Lib.hid hO
    have HSr := Lib.hid hS
    have HBr := Lib.hid hB
    clear hX hA hNe hO hS hB HR
    obtain ⟨w4, hw4⟩ : ∃ W, W = wr := ⟨_, rfl⟩
    subst hw4
    by_cases hlt : k < M
    · have hkn : (kk : Int) < (n : Int) := by have := HKK.out; have := HM1.out; omega
      obtain ⟨y, hy⟩ := getElem?_lt (l := rest) (k := k) (by have := HM.out; omega)
      have HYk := Lib.hid (show (h0 :: rest)[k + 1]? = some y by simpa using hy)
      have HD := Lib.hid (drop_at' hy)
      have HOy := Lib.hid (HO.out y (by have := List.mem_of_getElem? hy; simp [this]))
      obtain ⟨A2, B2, c2, d2, ⟨q0, q1, q2, q3, q4, q5, q6, q7⟩, hA2, hB2⟩ := hl_cells (HH.out.below HBr.out) HYk.out
      rw [← HKK.out] at q0 q1 q2 q3 q4 q5 q6 q7
      have hlq := block_lt_of_cell q0
      simp only at hlq
      obtain ⟨x0, x1, x2, x3, x4, x5, x6, x7⟩ := HXr.out.2.cells
      have l1 := HXr.out.2.lt
      have HC := Lib.hid (fun (W : World) (hW : Below w4.heap.size w4 W) => refadd_h x y A1 B1 A2 B2 c1 d1 c2 d2 W (HAr.out.1.below hW) (HAr.out.2.below hW) (hA2.below hW) (hB2.below hW) HOr.out HOy.out)
      have HCa := Lib.hid (fun (W : World) (hW : Below w4.heap.size w4 W) => (HC.out W hW).mono (fun e w' hr => show PostA w4 (AddR x y) e w' from by obtain ⟨x', y', ht, h⟩ := hr; exact postA hW ⟨x', y', ht, rfl, rfl⟩ h))
      have HCb := Lib.hid (fun (W : World) (hW : Below w4.heap.size w4 W) (hz : Box W w4.heap.size (.int .i64 0) (.int .i64 0) (.int .i64 0) (.int .u64 0) (.int .u64 0) (.int .i64 0) (.slice none 0 0) (.slice none 0 0)) => (HC.out W hW).mono (fun e w' hr => show PostB w4 (AddR x y) e w' from by obtain ⟨x', y', ht, h⟩ := hr; exact postB hW hz ⟨x', y', ht, rfl, rfl⟩ h))
      clear hA2 hB2 hy
      go_upto_region 7 with fail
      go_cut [6, 7] from 21 to 29 (fun s7 s8 wx => RetCut w4 (AddR x y) s7 s8 wx)
      have hq0 : Below w4.heap.size w4 w4 := Below.refl _ _
      have hq1 : Below w4.heap.size w4 w4.drew := Below.drew (Below.refl _ _)
      have hq2 : Below w4.heap.size w4 (w4.alloc (.cells #[.int .i64 0, .int .i64 0, .int .i64 0, .int .u64 0, .int .u64 0, .int .i64 0, .slice none 0 0, .slice none 0 0] 25)) := (Below.refl _ _).alloc (Nat.le_refl _) _
      have hq3 : Below w4.heap.size w4 (w4.alloc (.cells #[.int .i64 0, .int .i64 0, .int .i64 0, .int .u64 0, .int .u64 0, .int .i64 0, .slice none 0 0, .slice none 0 0] 25)).drew := Below.drew hq2
      have hq4 : Below w4.heap.size w4 (w4.drew.alloc (.cells #[.int .i64 0, .int .i64 0, .int .i64 0, .int .u64 0, .int .u64 0, .int .i64 0, .slice none 0 0, .slice none 0 0] 25)) := hq1.alloc (Nat.le_refl _) _
      have hbz2 : Box (w4.alloc (.cells #[.int .i64 0, .int .i64 0, .int .i64 0, .int .u64 0, .int .u64 0, .int .i64 0, .slice none 0 0, .slice none 0 0] 25)) w4.heap.size (.int .i64 0) (.int .i64 0) (.int .i64 0) (.int .u64 0) (.int .u64 0) (.int .i64 0) (.slice none 0 0) (.slice none 0 0) := Box.new w4 (.int .i64 0) (.int .i64 0) (.int .i64 0) (.int .u64 0) (.int .u64 0) (.int .i64 0) (.slice none 0 0) (.slice none 0 0)
      have hbz3 : Box (w4.alloc (.cells #[.int .i64 0, .int .i64 0, .int .i64 0, .int .u64 0, .int .u64 0, .int .i64 0, .slice none 0 0, .slice none 0 0] 25)).drew w4.heap.size (.int .i64 0) (.int .i64 0) (.int .i64 0) (.int .u64 0) (.int .u64 0) (.int .i64 0) (.slice none 0 0) (.slice none 0 0) := hbz2
      have hbz4 : Box (w4.drew.alloc (.cells #[.int .i64 0, .int .i64 0, .int .i64 0, .int .u64 0, .int .u64 0, .int .i64 0, .slice none 0 0, .slice none 0 0] 25)) w4.heap.size (.int .i64 0) (.int .i64 0) (.int .i64 0) (.int .u64 0) (.int .u64 0) (.int .i64 0) (.slice none 0 0) (.slice none 0 0) := Box.new w4.drew (.int .i64 0) (.int .i64 0) (.int .i64 0) (.int .u64 0) (.int .u64 0) (.int .i64 0) (.slice none 0 0) (.slice none 0 0)
      have HQ := Lib.hid (And.intro hq0 (And.intro hq1 (And.intro hq2 (And.intro hq3 hq4))))
      have HBZ := Lib.hid (And.intro hbz2 (And.intro hbz3 hbz4))
      clear hq0 hq1 hq2 hq3 hq4 hbz2 hbz3 hbz4
      case first =>
        go_region_with (go_at_call 15; first
          | ((with_reducible refine (HCb.out _ ?q0 ?q1).mono ?_); (case q1 => with_reducible first | exact HBZ.out.1 | exact HBZ.out.2.1 | exact HBZ.out.2.2); (case q0 => with_reducible first | exact HQ.out.2.2.1 | exact HQ.out.2.2.2.1 | exact HQ.out.2.2.2.2); rintro e w5 ⟨r, E, A3, B3, c3, d3, rfl, hT, hA, hb, nA, hne, hz⟩; have HT := Lib.hid hT; have HR5 := Lib.hid (And.intro hA (And.intro hb nA)); have HZZ := Lib.hid (And.intro hne hz); obtain ⟨z0, z1, z2, z3, z4, z5, z6, z7⟩ := hz.cells; obtain ⟨f0, f1, f2, f3, f4, f5, f6, f7⟩ := hz.frozen; have lz := hz.lt; clear hT hA hb nA hne hz)
          | ((with_reducible refine (HCa.out _ ?q0).mono ?_); (case q0 => with_reducible first | exact HQ.out.1 | exact HQ.out.2.1); rintro e w5 ⟨r, E, A3, B3, c3, d3, rfl, hT, hA, hb, nA⟩; have HT := Lib.hid hT; have HR5 := Lib.hid (And.intro hA (And.intro hb nA)); clear hT hA hb nA)
          | fail)
        all_goals (go_wp2_with fail)
        all_goals go_meet
        all_goals first
          | (have _ := HZZ; with_reducible exact RetCut.beforeC HT.out HR5.out.1 HR5.out.2.1 HR5.out.2.2 HZZ.out.1 HZZ.out.2)
          | with_reducible exact RetCut.after HT.out HR5.out.1 HR5.out.2.1 HR5.out.2.2
          | (have _ := HZZ; with_reducible exact (RetCut.beforeC HT.out HR5.out.1 HR5.out.2.1 HR5.out.2.2 HZZ.out.1 HZZ.out.2).drew)
          | with_reducible exact (RetCut.after HT.out HR5.out.1 HR5.out.2.1 HR5.out.2.2).drew
          | trace_state
      case rest =>
        obtain ⟨g, r, E, A3, B3, c3, d3, rfl, rfl, hR, hg, hz, hA, hN, hb⟩ := hcut
        obtain ⟨wx, hwx⟩ : ∃ W, W = wc := ⟨_, rfl⟩
        subst hwx
        obtain ⟨x', y', htw, hr, hE⟩ := hR
        have HTw := Lib.hid htw
        have HrE := Lib.hid (And.intro hr hE)
        have HXc := Lib.hid (And.intro (HXr.out.1.below hb) (And.intro (HXr.out.2.below hb) hz))
        have HA3 := Lib.hid hA
        have HN3 := Lib.hid hN
        have HBc := Lib.hid (HBr.out.trans (hb.mono HBr.out.size))
        have HL4 := Lib.hid (And.intro HXr.out.1.lt (And.intro HXr.out.2.lt hg))
        clear htw hr hE hz hA hN hb hg q0 q1 q2 q3 q4 q5 q6 q7 hlq x0 x1 x2 x3 x4 x5 x6 x7 l1 HC HCa HCb
        by_cases h00 : E = 0
        · subst h00
          have hgn : ¬ g = g1 := by have := HL4.out; omega
          have hgn' : ¬ g1 = g := by have := HL4.out; omega
          obtain ⟨z0, z1, z2, z3, z4, z5, z6, z7⟩ := HXc.out.2.2.cells
          have l3 := HXc.out.2.2.lt
          obtain ⟨x0, x1, x2, x3, x4, x5, x6, x7⟩ := HXc.out.2.1.cells
          obtain ⟨e0, e1, e2, e3, e4, e5, e6, e7⟩ := HXc.out.2.1.frozen
          have l1 := HXc.out.2.1.lt
          go_wp2_with fail
          clear x0 x1 x2 x3 x4 x5 x6 x7 e0 e1 e2 e3 e4 e5 e6 e7 l1 z0 z1 z2 z3 z4 z5 z6 z7 l3 hgn hgn'
          have HAdd := Lib.hid (HTw.out.add HrE.out.2)
          rw [HrE.out.1] at HAdd
          have HRn := Lib.hid (show SusRel w00 w g0 g1 h0 rest (k + 1) (set8 wx g1 (.int .i64 r.k) (.int .i64 r.s) (.int .i64 r.z) (.int .u64 r.zc) (.int .u64 r.ct) (.int .i64 r.sm) (.slice A3 r.P.length c3) (.slice B3 r.Q.length d3)) from ⟨r, A3, B3, c3, d3, ⟨HXc.out.1.off8 (by have := HG1.out; omega) _ _ _ _ _ _ _ _, HXc.out.2.1.put8 _ _ _ _ _ _ _ _⟩, ⟨HA3.out.1.set8 (HN3.out.1.ne HL4.out.2.1) _ _ _ _ _ _ _ _, HA3.out.2.set8 (HN3.out.2.ne HL4.out.2.1) _ _ _ _ _ _ _ _⟩, ⟨.inr fun a ha => ⟨HN3.out.1.ne HL4.out.1 a ha, HN3.out.1.ne HL4.out.2.1 a ha⟩, .inr fun a ha => ⟨HN3.out.2.ne HL4.out.1 a ha, HN3.out.2.ne HL4.out.2.1 a ha⟩⟩, ⟨.new (HN3.out.1.mono HBr.out.size), .new (HN3.out.2.mono HBr.out.size)⟩, HAdd.out.ok, fun o E hh => HSr.out o E (by rw [HD.out]; exact .step HTw.out HrE.out.2 (by rw [HrE.out.1]; exact hh)), below_set8 HBc.out (by have := HG1.out; have := HG0.out; omega) _ _ _ _ _ _ _ _⟩)
          generalize hW : ((((((((wx.setCell ⟨g1, 0, none⟩ (.int .i64 r.k)).setCell ⟨g1, 1, none⟩ (.int .i64 r.s)).setCell ⟨g1, 2, none⟩ (.int .i64 r.z)).setCell ⟨g1, 3, none⟩ (.int .u64 r.zc)).setCell ⟨g1, 4, none⟩ (.int .u64 r.ct)).setCell ⟨g1, 5, none⟩ (.int .i64 r.sm)).setCell ⟨g1, 6, none⟩ (.slice A3 r.P.length c3)).setCell ⟨g1, 7, none⟩ (.slice B3 r.Q.length d3)) = w7
          have hW' : set8 wx g1 (.int .i64 r.k) (.int .i64 r.s) (.int .i64 r.z) (.int .u64 r.zc) (.int .u64 r.ct) (.int .i64 r.sm) (.slice A3 r.P.length c3) (.slice B3 r.Q.length d3) = w7 := hW
          rw [hW'] at HRn
          clear hW hW'
          go_roundw
          case rel => exact ⟨k + 1, kk + 1, Lib.hid (by have := HKK.out; omega), by omega, by go_num, HRn⟩
          case measure => (have := HKK.out; simp [intOf]; omega)
        · have he2 : (E != 0) = true := by simpa using h00
          have HNE := Lib.hid h00
          clear h00
          have HE := Lib.hid (show ∃ o E', SumR h0 rest o E' ∧ RetS w00 w o E' (.returned (.tuple #[.agg #[.int .i64 0, .int .i64 0, .int .i64 0, .int .u64 0, .int .u64 0, .int .i64 0, .slice none 0 0, .slice none 0 0], .int .i64 E])) (set8 wx g0 (.int .i64 0) (.int .i64 0) (.int .i64 0) (.int .u64 0) (.int .u64 0) (.int .i64 0) (.slice none 0 0) (.slice none 0 0)) from ⟨zeroV, E, HSr.out _ _ (by rw [HD.out, ← HrE.out.2]; exact .bad HTw.out (by rw [HrE.out.2]; exact HNE.out)), (RetH.zero (below_set8 HBc.out (by have := HG0.out; omega) _ _ _ _ _ _ _ _)).s⟩)
          have HF := Lib.hid (HXc.out.1.put8 (.int .i64 0) (.int .i64 0) (.int .i64 0) (.int .u64 0) (.int .u64 0) (.int .i64 0) (.slice none 0 0) (.slice none 0 0))
          obtain ⟨z0, z1, z2, z3, z4, z5, z6, z7⟩ := HXc.out.1.cells
          obtain ⟨f0, f1, f2, f3, f4, f5, f6, f7⟩ := HXc.out.1.frozen
          have l0 := HXc.out.1.lt
          go_wp2_with fail
          clear z0 z1 z2 z3 z4 z5 z6 z7 f0 f1 f2 f3 f4 f5 f6 f7 l0
          generalize hW : ((((((((wx.setCell ⟨g0, 0, none⟩ (.int .i64 0)).setCell ⟨g0, 1, none⟩ (.int .i64 0)).setCell ⟨g0, 2, none⟩ (.int .i64 0)).setCell ⟨g0, 3, none⟩ (.int .u64 0)).setCell ⟨g0, 4, none⟩ (.int .u64 0)).setCell ⟨g0, 5, none⟩ (.int .i64 0)).setCell ⟨g0, 6, none⟩ (.slice none 0 0)).setCell ⟨g0, 7, none⟩ (.slice none 0 0)) = w9
          have hW' : (set8 wx (g0) (.int .i64 0) (.int .i64 0) (.int .i64 0) (.int .u64 0) (.int .u64 0) (.int .i64 0) (.slice none 0 0) (.slice none 0 0)) = w9 := hW
          rw [hW'] at HE HF
          obtain ⟨z0, z1, z2, z3, z4, z5, z6, z7⟩ := HF.out.cells
          exact bodyPost_ret (v := .tuple #[.agg #[.int .i64 0, .int .i64 0, .int .i64 0, .int .u64 0, .int .u64 0, .int .i64 0, .slice none 0 0, .slice none 0 0], .int .i64 E]) (by simp [results, Try.results23, go_sem, z0, z1, z2, z3, z4, z5, z6, z7]) rfl HE.out
    · obtain rfl : k = M := by omega
      have hki : ¬ ((kk : Int) < (n : Int)) := by have := HKK.out; have := HM1.out; omega
      have HE := Lib.hid (show ∃ o E', SumR h0 rest o E' ∧ RetS w00 w o E' (.returned (.tuple #[.agg #[.int .i64 x.k, .int .i64 x.s, .int .i64 x.z, .int .u64 x.zc, .int .u64 x.ct, .int .i64 x.sm, .slice A1 x.P.length c1, .slice B1 x.Q.length d1], .int .i64 0])) (set8 w4 g0 (.int .i64 x.k) (.int .i64 x.s) (.int .i64 x.z) (.int .u64 x.zc) (.int .u64 x.ct) (.int .i64 x.sm) (.slice A1 x.P.length c1) (.slice B1 x.Q.length d1)) from ⟨x, 0, HSr.out _ _ (by rw [List.drop_eq_nil_of_le (by have := HM.out; omega)]; exact .done x), A1, B1, c1, d1, rfl, HAr.out.1.set8n (or_l HEr.out.1) _ _ _ _ _ _ _ _, HAr.out.2.set8n (or_l HEr.out.2) _ _ _ _ _ _ _ _, below_set8 HBr.out (by have := HG0.out; omega) _ _ _ _ _ _ _ _, HFx.out.1, HFx.out.2⟩)
      have HF := Lib.hid (HXr.out.1.put8 (.int .i64 x.k) (.int .i64 x.s) (.int .i64 x.z) (.int .u64 x.zc) (.int .u64 x.ct) (.int .i64 x.sm) (.slice A1 x.P.length c1) (.slice B1 x.Q.length d1))
      obtain ⟨x0, x1, x2, x3, x4, x5, x6, x7⟩ := HXr.out.2.cells
      obtain ⟨z0, z1, z2, z3, z4, z5, z6, z7⟩ := HXr.out.1.cells
      obtain ⟨f0, f1, f2, f3, f4, f5, f6, f7⟩ := HXr.out.1.frozen
      have l0 := HXr.out.1.lt
      have l1 := HXr.out.2.lt
      go_wp2_with fail
      clear x0 x1 x2 x3 x4 x5 x6 x7 z0 z1 z2 z3 z4 z5 z6 z7 f0 f1 f2 f3 f4 f5 f6 f7 l0 l1
      generalize hW : ((((((((w4.setCell ⟨g0, 0, none⟩ (.int .i64 x.k)).setCell ⟨g0, 1, none⟩ (.int .i64 x.s)).setCell ⟨g0, 2, none⟩ (.int .i64 x.z)).setCell ⟨g0, 3, none⟩ (.int .u64 x.zc)).setCell ⟨g0, 4, none⟩ (.int .u64 x.ct)).setCell ⟨g0, 5, none⟩ (.int .i64 x.sm)).setCell ⟨g0, 6, none⟩ (.slice A1 x.P.length c1)).setCell ⟨g0, 7, none⟩ (.slice B1 x.Q.length d1)) = w9
      have hW' : (set8 w4 (g0) (.int .i64 x.k) (.int .i64 x.s) (.int .i64 x.z) (.int .u64 x.zc) (.int .u64 x.ct) (.int .i64 x.sm) (.slice A1 x.P.length c1) (.slice B1 x.Q.length d1)) = w9 := hW
      rw [hW'] at HE HF
      obtain ⟨z0, z1, z2, z3, z4, z5, z6, z7⟩ := HF.out.cells
      exact bodyPost_ret (v := .tuple #[.agg #[.int .i64 x.k, .int .i64 x.s, .int .i64 x.z, .int .u64 x.zc, .int .u64 x.ct, .int .i64 x.sm, .slice A1 x.P.length c1, .slice B1 x.Q.length d1], .int .i64 0]) (by simp [results, Try.results23, go_sem, z0, z1, z2, z3, z4, z5, z6, z7]) rfl HE.out
theorem Hl.head {w : World} {D : Option Addr} {hs : List HV} (h : Hl w D hs) (h0 : 0 < hs.length) : ∃ b off, D = some ⟨b, off, none⟩ := by
  obtain ⟨b, off, e, _⟩ := h.some_ h0
  exact ⟨b, off, e⟩
theorem rise_full (D : Option Addr) (n c0 : Nat) (hs : List HV) (w00 w : World) (hb : Below w00.heap.size w00 w) (hn : n = hs.length) (hcap : n ≤ c0) (h : Hl w00 D hs) (ho : ∀ x ∈ hs, Ok x) :
    Calls Try.prog 20 #[.slice D n c0] w (fun e w' => ∃ o E, RiseF hs o E ∧ RetS w00 w o E e w') := by
  by_cases h2 : n < 2
  · refine (rise_short D n c0 w h2).mono fun e w' hr => ⟨zeroV, 30, ?_, hr.s⟩
    match hs, hn with
    | [], _ => exact ⟨rfl, rfl⟩
    | [a], _ => exact ⟨rfl, rfl⟩
    | a :: b :: r, hn => simp at hn; omega
  · obtain ⟨b, off, rfl⟩ := h.head (by omega)
    match hs, hn, h, ho with
    | [], hn, _, _ => simp at hn; omega
    | h0 :: rest, hn, h, ho =>
      have hr1 : 1 ≤ rest.length := by simp at hn; omega
      rcases hk : anyK (h0 :: rest) with _ | _
      · exact (rise_h b off c0 n h0 rest w (by simpa using hn) hcap (by omega) (h.below hb) ho hk).mono fun e w' ⟨o, E, h1, h2⟩ => ⟨o, E, (RiseF.main hr1).2 (.inr ⟨hk, h1⟩), h2.s⟩
      · exact (rise_kind b off c0 n (h0 :: rest) w hn hcap (by omega) (h.below hb) hk).mono fun e w' hr => ⟨zeroV, 25, (RiseF.main hr1).2 (.inl ⟨hk, rfl, rfl⟩), hr.s⟩
theorem refrise_full (D : Option Addr) (n c0 : Nat) (hs : List HV) (w00 w : World) (hb : Below w00.heap.size w00 w) (hn : n = hs.length) (hcap : n ≤ c0) (h : Hl w00 D hs) (ho : ∀ x ∈ hs, Ok x) :
    Calls Try.prog 21 #[.slice D n c0] w (fun e w' => ∃ o E, RiseF hs o E ∧ RetS w00 w o E e w') := by
  by_cases h2 : n < 2
  · refine (refrise_short D n c0 w h2).mono fun e w' hr => ⟨zeroV, 30, ?_, hr.s⟩
    match hs, hn with
    | [], _ => exact ⟨rfl, rfl⟩
    | [a], _ => exact ⟨rfl, rfl⟩
    | a :: b :: r, hn => simp at hn; omega
  · obtain ⟨b, off, rfl⟩ := h.head (by omega)
    match hs, hn, h, ho with
    | [], hn, _, _ => simp at hn; omega
    | h0 :: rest, hn, h, ho =>
      exact (refrise_h b off c0 n h0 rest w (by simpa using hn) hcap (by omega) (h.below hb) ho).mono fun e w' ⟨o, E, h1, h2⟩ => ⟨o, E, h1, h2.s⟩
theorem sum_full (D : Option Addr) (n c0 : Nat) (hs : List HV) (w00 w : World) (hb : Below w00.heap.size w00 w) (hn : n = hs.length) (hcap : n ≤ c0) (h : Hl w00 D hs) (ho : ∀ x ∈ hs, Ok x) :
    Calls Try.prog 22 #[.slice D n c0] w (fun e w' => ∃ o E, SumF hs o E ∧ RetS w00 w o E e w') := by
  match hs, hn, h, ho with
  | [], hn, h, ho => exact (sum_none D n c0 w hn).mono fun e w' hr => ⟨zeroV, 30, ⟨rfl, rfl⟩, hr.s⟩
  | h0 :: rest, hn, h, ho =>
    obtain ⟨b, off, rfl⟩ := h.head (by simp)
    exact (sum_h b off c0 n h0 rest w (by simpa using hn) hcap (h.below hb) ho).mono fun e w' ⟨o, E, h1, h2⟩ => ⟨o, E, h1, h2.s⟩
theorem refsum_full (D : Option Addr) (n c0 : Nat) (hs : List HV) (w00 w : World) (hb : Below w00.heap.size w00 w) (hn : n = hs.length) (hcap : n ≤ c0) (h : Hl w00 D hs) (ho : ∀ x ∈ hs, Ok x) :
    Calls Try.prog 23 #[.slice D n c0] w (fun e w' => ∃ o E, SumF hs o E ∧ RetS w00 w o E e w') := by
  match hs, hn, h, ho with
  | [], hn, h, ho => exact (refsum_none D n c0 w hn).mono fun e w' hr => ⟨zeroV, 30, ⟨rfl, rfl⟩, hr.s⟩
  | h0 :: rest, hn, h, ho =>
    obtain ⟨b, off, rfl⟩ := h.head (by simp)
    exact (refsum_h b off c0 n h0 rest w00 w hb (by simpa using hn) hcap h ho).mono fun e w' ⟨o, E, h1, h2⟩ => ⟨o, E, h1, h2⟩
end Go.Proofs.Ytbibhjcmdehdbaa
