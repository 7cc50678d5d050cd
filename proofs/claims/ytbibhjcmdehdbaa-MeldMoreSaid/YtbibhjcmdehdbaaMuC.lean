/- Rise. -/
import Derived.Test.YtbibhjcmdehdbaaMdX
import Derived.Deep.RegionWith
import Derived.Deep.CutRange
/-! Sum. -/
namespace Go.Proofs.Ytbibhjcmdehdbaa
open Go.RowKit Go.Sort Go.Maps
set_option linter.unusedVariables false

theorem hl_cells {w : World} {b off : Nat} {hs : List HV} (h : Hl w (some ⟨b, off, none⟩) hs) {j : Nat} {x : HV} (hj : hs[j]? = some x) : ∃ (A B : Option Addr) (c d : Nat),
    (w.cell? ⟨b, off + j * 8, none⟩ = some (.int .i64 x.k) ∧ w.cell? ⟨b, off + j * 8 + 1, none⟩ = some (.int .i64 x.s) ∧ w.cell? ⟨b, off + j * 8 + 2, none⟩ = some (.int .i64 x.z) ∧ w.cell? ⟨b, off + j * 8 + 3, none⟩ = some (.int .u64 x.zc) ∧ w.cell? ⟨b, off + j * 8 + 4, none⟩ = some (.int .u64 x.ct) ∧ w.cell? ⟨b, off + j * 8 + 5, none⟩ = some (.int .i64 x.sm) ∧ w.cell? ⟨b, off + j * 8 + 6, none⟩ = some (.slice A x.P.length c) ∧ w.cell? ⟨b, off + j * 8 + 7, none⟩ = some (.slice B x.Q.length d)) ∧ Bk w A x.P ∧ Bk w B x.Q := by
  have hl : j < hs.length := (List.getElem?_eq_some_iff.1 hj).1
  obtain ⟨b', off', e, hc⟩ := h.some_ (by omega)
  injection e with e
  injection e with e1 e2
  subst e1 e2
  obtain ⟨A, B, c, d, hcells, hA, hB, _⟩ := hc j x hj
  exact ⟨A, B, c, d, hcells, hA, hB⟩
theorem drop_at' {α : Type} {l : List α} {k : Nat} {x : α} (h : l[k]? = some x) : l.drop k = x :: l.drop (k + 1) := by
  obtain ⟨hk, e⟩ := List.getElem?_eq_some_iff.1 h
  rw [List.drop_eq_getElem_cons hk, e]
set_option maxHeartbeats 4000000 in
set_option maxRecDepth 100000 in
theorem sum_one (b off c0 n : Nat) (h0 : HV) (w : World) (hn : n = 1) (hcap : n ≤ c0) (h : Hl w (some ⟨b, off, none⟩) ([h0])) (ho : ∀ x ∈ [h0], Ok x) :
    Calls Try.prog 22 #[.slice (some ⟨b, off, none⟩) n c0] w (RetH w h0 0) := by
  obtain ⟨rest, hrest⟩ : ∃ r : List HV, r = [] := ⟨_, rfl⟩
  rw [← hrest] at h ho
  replace hn : n = rest.length + 1 := by rw [hrest]; exact hn
  have HRS := Lib.hid hrest
  clear hrest
  have HN := Lib.hid hn
  have hn1 : (n : Int) ≤ 1000000 := by have := h.1; simp at this; omega
  have hn2 : (0 : Int) < n := by omega
  have hn3 : ((n : Int) == 0) = false := by simp; omega
  have hn4 : (1 : Int) ≤ n := by omega
  have hc1 : (n : Int) ≤ c0 := by omega
  have HO := Lib.hid ho
  have HH := Lib.hid h
  clear hn ho h
  obtain ⟨A0, B0, a0c, b0c, ⟨q0, q1, q2, q3, q4, q5, q6, q7⟩, hA, hB⟩ := hl_cells HH.out (j := 0) (x := h0) rfl
  simp only [Nat.zero_mul, Nat.add_zero] at q0 q1 q2 q3 q4 q5 q6 q7
  have hlq := block_lt_of_cell q0
  simp only at hlq
  have hb0 := (Below.refl w.heap.size w).alloc (Nat.le_refl _) (.cells #[.int .i64 0, .int .i64 0, .int .i64 0, .int .u64 0, .int .u64 0, .int .i64 0, .slice none 0 0, .slice none 0 0] 25)
  have HX0 := Lib.hid (Box.new w (.int .i64 0) (.int .i64 0) (.int .i64 0) (.int .u64 0) (.int .u64 0) (.int .i64 0) (.slice none 0 0) (.slice none 0 0))
  have HA0 := Lib.hid (And.intro (hA.below hb0) (hB.below hb0))
  have HB0 := Lib.hid hb0
  have HO0 := Lib.hid (HO.out h0 (by simp))
  clear hA hB hb0
  go_enter Try.func22, Try.ntmps22
  go_wp2_with fail
  obtain ⟨g0, hg0⟩ : ∃ g, w.heap.size = g := ⟨_, rfl⟩
  rw [hg0] at HX0 ⊢
  have HG0 := Lib.hid hg0
  clear hg0
  generalize w.alloc (.cells #[.int .i64 0, .int .i64 0, .int .i64 0, .int .u64 0, .int .u64 0, .int .i64 0, .slice none 0 0, .slice none 0 0] 25) = w0 at *
  clear q0 q1 q2 q3 q4 q5 q6 q7 hlq
  refine (clone_hv h0 A0 B0 a0c b0c w0 HA0.out.1 HA0.out.2 (by have := HO0.out.lP; omega) (by have := HO0.out.lQ; omega)).mono ?_
  rintro e w1 ⟨A1, B1, c1, d1, rfl, hA, hB, hb, nA, nB⟩
  have HS0 := Lib.hid HX0.out.lt
  have HB1 := Lib.hid (HB0.out.trans (hb.mono HB0.out.size))
  have HX1 := Lib.hid (HX0.out.below hb)
  have HA1 := Lib.hid (And.intro hA hB)
  have HN1 := Lib.hid (And.intro nA nB)
  have HSW := Lib.hid HB0.out.size
  clear hA hB hb nA nB HX0 HA0
  simp only [hvA]
  have hm0 : n - 1 = 0 := by rw [HN.out, HRS.out]; rfl
  go_wp2_with fail
  all_goals
    have hw : Below w1.heap.size w1 (w1.alloc (.cells #[.int .i64 h0.k, .int .i64 h0.s, .int .i64 h0.z, .int .u64 h0.zc, .int .u64 h0.ct, .int .i64 h0.sm, .slice A1 h0.P.length c1, .slice B1 h0.Q.length d1] 25)) := (Below.refl _ _).alloc (Nat.le_refl _) _
    have HX2 := Lib.hid (And.intro (HX1.out.below hw) (Box.new w1 (.int .i64 h0.k) (.int .i64 h0.s) (.int .i64 h0.z) (.int .u64 h0.zc) (.int .u64 h0.ct) (.int .i64 h0.sm) (.slice A1 h0.P.length c1) (.slice B1 h0.Q.length d1)))
    have HB2 := Lib.hid (HB1.out.trans (hw.mono HB1.out.size))
    have HA2 := Lib.hid (And.intro (HA1.out.1.below hw) (HA1.out.2.below hw))
    clear hw HX1 HB1 HA1
    obtain ⟨g1, hg1⟩ : ∃ g, w1.heap.size = g := ⟨_, rfl⟩
    rw [hg1] at HX2 ⊢
    clear hg1
    generalize w1.alloc (.cells #[.int .i64 h0.k, .int .i64 h0.s, .int .i64 h0.z, .int .u64 h0.zc, .int .u64 h0.ct, .int .i64 h0.sm, .slice A1 h0.P.length c1, .slice B1 h0.Q.length d1] 25) = w2 at *
    refine wp_loop_rounds 1 ?_
    rw [rounds_succ]
    have HE := Lib.hid (show RetH w h0 0 (.returned (.tuple #[.agg #[.int .i64 h0.k, .int .i64 h0.s, .int .i64 h0.z, .int .u64 h0.zc, .int .u64 h0.ct, .int .i64 h0.sm, .slice A1 h0.P.length c1, .slice B1 h0.Q.length d1], .int .i64 0])) (set8 w2 g0 (.int .i64 h0.k) (.int .i64 h0.s) (.int .i64 h0.z) (.int .u64 h0.zc) (.int .u64 h0.ct) (.int .i64 h0.sm) (.slice A1 h0.P.length c1) (.slice B1 h0.Q.length d1)) from ⟨A1, B1, c1, d1, rfl, HA2.out.1.set8 (HN1.out.1.ne HS0.out) _ _ _ _ _ _ _ _, HA2.out.2.set8 (HN1.out.2.ne HS0.out) _ _ _ _ _ _ _ _, below_set8 HB2.out (by have := HG0.out; omega) _ _ _ _ _ _ _ _, HN1.out.1.mono HSW.out, HN1.out.2.mono HSW.out⟩)
    have HF := Lib.hid (HX2.out.1.put8 (.int .i64 h0.k) (.int .i64 h0.s) (.int .i64 h0.z) (.int .u64 h0.zc) (.int .u64 h0.ct) (.int .i64 h0.sm) (.slice A1 h0.P.length c1) (.slice B1 h0.Q.length d1))
    obtain ⟨x0, x1, x2, x3, x4, x5, x6, x7⟩ := HX2.out.2.cells
    obtain ⟨z0, z1, z2, z3, z4, z5, z6, z7⟩ := HX2.out.1.cells
    obtain ⟨f0, f1, f2, f3, f4, f5, f6, f7⟩ := HX2.out.1.frozen
    have l0 := HX2.out.1.lt
    have l1 := HX2.out.2.lt
    go_wp2_with fail
    clear x0 x1 x2 x3 x4 x5 x6 x7 z0 z1 z2 z3 z4 z5 z6 z7 f0 f1 f2 f3 f4 f5 f6 f7 l0 l1
    generalize hW : ((((((((w2.setCell ⟨g0, 0, none⟩ (.int .i64 h0.k)).setCell ⟨g0, 1, none⟩ (.int .i64 h0.s)).setCell ⟨g0, 2, none⟩ (.int .i64 h0.z)).setCell ⟨g0, 3, none⟩ (.int .u64 h0.zc)).setCell ⟨g0, 4, none⟩ (.int .u64 h0.ct)).setCell ⟨g0, 5, none⟩ (.int .i64 h0.sm)).setCell ⟨g0, 6, none⟩ (.slice A1 h0.P.length c1)).setCell ⟨g0, 7, none⟩ (.slice B1 h0.Q.length d1)) = w9
    have hW' : (set8 w2 (g0) (.int .i64 h0.k) (.int .i64 h0.s) (.int .i64 h0.z) (.int .u64 h0.zc) (.int .u64 h0.ct) (.int .i64 h0.sm) (.slice A1 h0.P.length c1) (.slice B1 h0.Q.length d1)) = w9 := hW
    rw [hW'] at HE HF
    obtain ⟨z0, z1, z2, z3, z4, z5, z6, z7⟩ := HF.out.cells
    exact bodyPost_ret (v := .tuple #[.agg #[.int .i64 h0.k, .int .i64 h0.s, .int .i64 h0.z, .int .u64 h0.zc, .int .u64 h0.ct, .int .i64 h0.sm, .slice A1 h0.P.length c1, .slice B1 h0.Q.length d1], .int .i64 0]) (by simp [results, Try.results22, go_sem, z0, z1, z2, z3, z4, z5, z6, z7]) rfl HE.out
def SumRel (w : World) (g0 g1 : Nat) (h0 : HV) (rest : List HV) (k : Nat) (wr : World) : Prop :=
  ∃ (x : HV) (A1 B1 : Option Addr) (c1 d1 : Nat), (Box wr g0 (.int .i64 0) (.int .i64 0) (.int .i64 0) (.int .u64 0) (.int .u64 0) (.int .i64 0) (.slice none 0 0) (.slice none 0 0) ∧ Box wr g1 (.int .i64 x.k) (.int .i64 x.s) (.int .i64 x.z) (.int .u64 x.zc) (.int .u64 x.ct) (.int .i64 x.sm) (.slice A1 x.P.length c1) (.slice B1 x.Q.length d1)) ∧ (Bk wr A1 x.P ∧ Bk wr B1 x.Q) ∧ (NewA w A1 ∧ NewA w B1) ∧ ((x.P.length = 0 ∨ ∀ a, A1 = some a → a.block ≠ g0 ∧ a.block ≠ g1) ∧ (x.Q.length = 0 ∨ ∀ a, B1 = some a → a.block ≠ g0 ∧ a.block ≠ g1)) ∧ Ok x ∧ (∀ o E, SumR x (rest.drop k) o E → SumR h0 rest o E) ∧ Below w.heap.size w wr
theorem SumRel.below {w : World} {g0 g1 : Nat} {h0 : HV} {rest : List HV} {k : Nat} {wr wr' : World} (hb : Below wr.heap.size wr wr') (h : SumRel w g0 g1 h0 rest k wr) : SumRel w g0 g1 h0 rest k wr' := by
  obtain ⟨x, A1, B1, c1, d1, hX, hA, hN, hNe, hO, hS, hB⟩ := h
  exact ⟨x, A1, B1, c1, d1, ⟨hX.1.below hb, hX.2.below hb⟩, ⟨hA.1.below hb, hA.2.below hb⟩, hN, hNe, hO, hS, hB.trans (hb.mono hB.size)⟩
theorem or_l {p : Prop} {A : Option Addr} {g h : Nat} (k : p ∨ ∀ a, A = some a → a.block ≠ g ∧ a.block ≠ h) : p ∨ ∀ a, A = some a → a.block ≠ g := k.imp id fun f a ha => (f a ha).1
theorem or_r {p : Prop} {A : Option Addr} {g h : Nat} (k : p ∨ ∀ a, A = some a → a.block ≠ g ∧ a.block ≠ h) : p ∨ ∀ a, A = some a → a.block ≠ h := k.imp id fun f a ha => (f a ha).2
theorem ne_two {w : World} {A : Option Addr} {P : List (Int × Int)} {g0 g1 : Nat} (nA : NewA w A) (h0 : g0 < w.heap.size) (h : P.length = 0 ∨ ∀ a, A = some a → a.block ≠ g1) : P.length = 0 ∨ ∀ a, A = some a → a.block ≠ g0 ∧ a.block ≠ g1 := h.imp id fun f a ha => ⟨by have := nA a ha; omega, f a ha⟩
set_option maxHeartbeats 4000000 in
set_option maxRecDepth 100000 in
theorem sum_more (b off c0 n : Nat) (h0 : HV) (rest : List HV) (w : World) (hn : n = rest.length + 1) (hcap : n ≤ c0) (h : Hl w (some ⟨b, off, none⟩) (h0 :: rest)) (ho : ∀ x ∈ h0 :: rest, Ok x) (h2 : 2 ≤ n) :
    Calls Try.prog 22 #[.slice (some ⟨b, off, none⟩) n c0] w fun e w' => ∃ o E, SumR h0 rest o E ∧ RetH w o E e w' := by
  have hcne : ¬ c0 = 1 := by omega
  have HN := Lib.hid hn
  have hn1 : (n : Int) ≤ 1000000 := by have := h.1; simp at this; omega
  have hn2 : (0 : Int) < n := by omega
  have hn3 : ((n : Int) == 0) = false := by simp; omega
  have hn4 : (1 : Int) ≤ n := by omega
  have hc1 : (n : Int) ≤ c0 := by omega
  have HO := Lib.hid ho
  have HH := Lib.hid h
  clear hn ho h
  obtain ⟨A0, B0, a0c, b0c, ⟨q0, q1, q2, q3, q4, q5, q6, q7⟩, hA, hB⟩ := hl_cells HH.out (j := 0) (x := h0) rfl
  simp only [Nat.zero_mul, Nat.add_zero] at q0 q1 q2 q3 q4 q5 q6 q7
  have hlq := block_lt_of_cell q0
  simp only at hlq
  have hb0 := (Below.refl w.heap.size w).alloc (Nat.le_refl _) (.cells #[.int .i64 0, .int .i64 0, .int .i64 0, .int .u64 0, .int .u64 0, .int .i64 0, .slice none 0 0, .slice none 0 0] 25)
  have HX0 := Lib.hid (Box.new w (.int .i64 0) (.int .i64 0) (.int .i64 0) (.int .u64 0) (.int .u64 0) (.int .i64 0) (.slice none 0 0) (.slice none 0 0))
  have HA0 := Lib.hid (And.intro (hA.below hb0) (hB.below hb0))
  have HB0 := Lib.hid hb0
  have HO0 := Lib.hid (HO.out h0 (by simp))
  clear hA hB hb0
  go_enter Try.func22, Try.ntmps22
  go_wp2_with fail
  obtain ⟨g0, hg0⟩ : ∃ g, w.heap.size = g := ⟨_, rfl⟩
  rw [hg0] at HX0 ⊢
  have HG0 := Lib.hid hg0
  clear hg0
  generalize w.alloc (.cells #[.int .i64 0, .int .i64 0, .int .i64 0, .int .u64 0, .int .u64 0, .int .i64 0, .slice none 0 0, .slice none 0 0] 25) = w0 at *
  clear q0 q1 q2 q3 q4 q5 q6 q7 hlq
  refine (clone_hv h0 A0 B0 a0c b0c w0 HA0.out.1 HA0.out.2 (by have := HO0.out.lP; omega) (by have := HO0.out.lQ; omega)).mono ?_
  rintro e w1 ⟨A1, B1, c1, d1, rfl, hA, hB, hb, nA, nB⟩
  have HB1 := Lib.hid (HB0.out.trans (hb.mono HB0.out.size))
  have HX1 := Lib.hid (HX0.out.below hb)
  have HA1 := Lib.hid (And.intro hA hB)
  have HN1 := Lib.hid (And.intro nA nB)
  have HS0 := Lib.hid HX0.out.lt
  have HSW := Lib.hid HB0.out.size
  have HNO := Lib.hid (And.intro (hA.old (Nat.le_refl _)) (hB.old (Nat.le_refl _)))
  have HS1 := Lib.hid hb.size
  clear hA hB hb nA nB HX0 HA0
  simp only [hvA]
  go_wp2_with fail
  have hw : Below w1.heap.size w1 (w1.alloc (.cells #[.int .i64 h0.k, .int .i64 h0.s, .int .i64 h0.z, .int .u64 h0.zc, .int .u64 h0.ct, .int .i64 h0.sm, .slice A1 h0.P.length c1, .slice B1 h0.Q.length d1] 25)) := (Below.refl _ _).alloc (Nat.le_refl _) _
  have HX2 := Lib.hid (And.intro (HX1.out.below hw) (Box.new w1 (.int .i64 h0.k) (.int .i64 h0.s) (.int .i64 h0.z) (.int .u64 h0.zc) (.int .u64 h0.ct) (.int .i64 h0.sm) (.slice A1 h0.P.length c1) (.slice B1 h0.Q.length d1)))
  have HB2 := Lib.hid (HB1.out.trans (hw.mono HB1.out.size))
  have HA2 := Lib.hid (And.intro (HA1.out.1.below hw) (HA1.out.2.below hw))
  clear hw HX1 HB1 HA1
  obtain ⟨g1, hg1⟩ : ∃ g, w1.heap.size = g := ⟨_, rfl⟩
  rw [hg1] at HX2 HNO ⊢
  have HG1 := Lib.hid (show g0 < g1 by rw [← hg1]; have := HS0.out; have := HS1.out; omega)
  clear hg1
  generalize w1.alloc (.cells #[.int .i64 h0.k, .int .i64 h0.s, .int .i64 h0.z, .int .u64 h0.zc, .int .u64 h0.ct, .int .i64 h0.sm, .slice A1 h0.P.length c1, .slice B1 h0.Q.length d1] 25) = w2 at *
  obtain ⟨M, hM⟩ : ∃ M, n - 1 = M := ⟨_, rfl⟩
  rw [hM]
  have HM := Lib.hid (show M = rest.length by have := HN.out; omega)
  have hM1 : (M : Int) ≤ 1000000 := by omega
  clear hM
  have HR0 := Lib.hid (show SumRel w g0 g1 h0 rest 0 w2 from ⟨h0, A1, B1, c1, d1, HX2.out, HA2.out, ⟨HN1.out.1.mono HSW.out, HN1.out.2.mono HSW.out⟩, ⟨ne_two HN1.out.1 HS0.out HNO.out.1, ne_two HN1.out.2 HS0.out HNO.out.2⟩, HO0.out, fun o E hh => hh, HB2.out⟩)
  clear HX2 HA2 HN1 HB2 HNO
  go_loopw [20] (fun i wr => ∃ k : Nat, k ≤ M ∧ i = .int .i64 k ∧ Hid (SumRel w g0 g1 h0 rest k wr)) (fun i _ => M - (intOf i).toNat)
  case atStart => exact ⟨0, by omega, rfl, HR0⟩
  case round =>
    obtain ⟨k, hk, rfl, HR⟩ := hrel
    clear HR0
    obtain ⟨x, A1, B1, c1, d1, hX, hA, hN, hNe, hO, hS, hB⟩ := HR.out
    have HXr := Lib.hid hX
    have HAr := Lib.hid hA
    have HNr := Lib.hid hN
    have HEr := Lib.hid hNe
    have HOr := Lib.hid hO
    have HSr := Lib.hid hS
    have HBr := Lib.hid hB
    clear hA hN hNe hO hS hB HR
    obtain ⟨x0, x1, x2, x3, x4, x5, x6, x7⟩ := hX.2.cells
    have l0 := hX.1.lt
    have l1 := hX.2.lt
    clear hX
    by_cases hlt : k < M
    · have hki : (k : Int) < (M : Int) := by omega
      obtain ⟨y, hy⟩ := getElem?_lt (l := rest) (k := k) (by have := HM.out; omega)
      obtain ⟨A2, B2, c2, d2, ⟨q0, q1, q2, q3, q4, q5, q6, q7⟩, hA2, hB2⟩ := hl_cells (HH.out.below HBr.out) (j := k + 1) (x := y) (by simpa using hy)
      have hoff : off + (k + 1) * 8 = off + 8 + k * 8 := by omega
      rw [hoff] at q0 q1 q2 q3 q4 q5 q6 q7
      have hlq := block_lt_of_cell q0
      simp only at hlq
      have HD := Lib.hid (drop_at' hy)
      have HOy := Lib.hid (HO.out y (by have := List.mem_of_getElem? hy; simp [this]))
      have hw : Below wr.heap.size wr (wr.alloc (.cells #[.int .i64 y.k, .int .i64 y.s, .int .i64 y.z, .int .u64 y.zc, .int .u64 y.ct, .int .i64 y.sm, .slice A2 y.P.length c2, .slice B2 y.Q.length d2] 25)) := (Below.refl _ _).alloc (Nat.le_refl _) _
      have HX3 := Lib.hid (And.intro (HXr.out.1.below hw) (HXr.out.2.below hw))
      have HA3 := Lib.hid (And.intro (And.intro (HAr.out.1.below hw) (HAr.out.2.below hw)) (And.intro (hA2.below hw) (hB2.below hw)))
      have HB3 := Lib.hid (HBr.out.trans (hw.mono HBr.out.size))
      have HSz := Lib.hid (show g0 < (wr.alloc (.cells #[.int .i64 y.k, .int .i64 y.s, .int .i64 y.z, .int .u64 y.zc, .int .u64 y.ct, .int .i64 y.sm, .slice A2 y.P.length c2, .slice B2 y.Q.length d2] 25)).heap.size ∧ g1 < (wr.alloc (.cells #[.int .i64 y.k, .int .i64 y.s, .int .i64 y.z, .int .u64 y.zc, .int .u64 y.ct, .int .i64 y.sm, .slice A2 y.P.length c2, .slice B2 y.Q.length d2] 25)).heap.size by simp; omega)
      clear hw hA2 hB2 hoff hy
      go_wp2_with fail
      clear q0 q1 q2 q3 q4 q5 q6 q7 hlq x0 x1 x2 x3 x4 x5 x6 x7 l0 l1 HXr HAr HBr
      generalize wr.alloc (.cells #[.int .i64 y.k, .int .i64 y.s, .int .i64 y.z, .int .u64 y.zc, .int .u64 y.ct, .int .i64 y.sm, .slice A2 y.P.length c2, .slice B2 y.Q.length d2] 25) = w3 at *
      refine (add_h x y A1 B1 A2 B2 c1 d1 c2 d2 w3 HA3.out.1.1 HA3.out.1.2 HA3.out.2.1 HA3.out.2.2 HOr.out HOy.out).mono ?_
      rintro e w4 ⟨p, q, htw, A3, B3, c3, d3, rfl, hA4, hB4, hb4, nA4, nB4⟩
      have HT := Lib.hid htw
      obtain ⟨r, hr⟩ : ∃ r, mAddO p q = r := ⟨_, rfl⟩
      obtain ⟨E, hE⟩ : ∃ E, mAddE p q = E := ⟨_, rfl⟩
      rw [hr] at hA4 hB4
      simp only [hvA, hr, hE]
      have HRE := Lib.hid (And.intro hr hE)
      have HX4 := Lib.hid (And.intro (HX3.out.1.below hb4) (HX3.out.2.below hb4))
      have HB4 := Lib.hid (HB3.out.trans (hb4.mono HB3.out.size))
      have HA4 := Lib.hid (And.intro hA4 hB4)
      have HN4 := Lib.hid (And.intro nA4 nB4)
      have HSB := Lib.hid HB3.out.size
      clear hr hE hA4 hB4 hb4 nA4 nB4 htw HX3 HA3 HB3
      have hw : Below w4.heap.size w4 (w4.alloc (.cells #[.int .i64 r.k, .int .i64 r.s, .int .i64 r.z, .int .u64 r.zc, .int .u64 r.ct, .int .i64 r.sm, .slice A3 r.P.length c3, .slice B3 r.Q.length d3] 25)) := (Below.refl _ _).alloc (Nat.le_refl _) _
      have hx7 := Box.new w4 (.int .i64 r.k) (.int .i64 r.s) (.int .i64 r.z) (.int .u64 r.zc) (.int .u64 r.ct) (.int .i64 r.sm) (.slice A3 r.P.length c3) (.slice B3 r.Q.length d3)
      obtain ⟨v0, v1, v2, v3, v4, v5, v6, v7⟩ := hx7.cells
      have l7 := hx7.lt
      clear hw hx7
      obtain ⟨z0, z1, z2, z3, z4, z5, z6, z7⟩ := HX4.out.1.cells
      obtain ⟨f0, f1, f2, f3, f4, f5, f6, f7⟩ := HX4.out.1.frozen
      obtain ⟨x0, x1, x2, x3, x4, x5, x6, x7⟩ := HX4.out.2.cells
      obtain ⟨e0, e1, e2, e3, e4, e5, e6, e7⟩ := HX4.out.2.frozen
      have l0 := HX4.out.1.lt
      have l1 := HX4.out.2.lt
      by_cases hok : E = 0
      · subst hok
        clear z0 z1 z2 z3 z4 z5 z6 z7 f0 f1 f2 f3 f4 f5 f6 f7
        go_wp2_with fail
        clear x0 x1 x2 x3 x4 x5 x6 x7 e0 e1 e2 e3 e4 e5 e6 e7 v0 v1 v2 v3 v4 v5 v6 v7 l0 l1 l7
        have HAdd := Lib.hid (HT.out.add HRE.out.2)
        rw [HRE.out.1] at HAdd
        have HRn := Lib.hid (show SumRel w g0 g1 h0 rest (k + 1) ((set8 w4 g1 (.int .i64 r.k) (.int .i64 r.s) (.int .i64 r.z) (.int .u64 r.zc) (.int .u64 r.ct) (.int .i64 r.sm) (.slice A3 r.P.length c3) (.slice B3 r.Q.length d3)).alloc (.cells #[.int .i64 r.k, .int .i64 r.s, .int .i64 r.z, .int .u64 r.zc, .int .u64 r.ct, .int .i64 r.sm, .slice A3 r.P.length c3, .slice B3 r.Q.length d3] 25)) from SumRel.below ((Below.refl _ _).alloc (Nat.le_refl _) _) ⟨r, A3, B3, c3, d3, ⟨HX4.out.1.off8 (by have := HG1.out; omega) _ _ _ _ _ _ _ _, HX4.out.2.put8 _ _ _ _ _ _ _ _⟩, ⟨HA4.out.1.set8 (HN4.out.1.ne HSz.out.2) _ _ _ _ _ _ _ _, HA4.out.2.set8 (HN4.out.2.ne HSz.out.2) _ _ _ _ _ _ _ _⟩, ⟨HN4.out.1.mono HSB.out, HN4.out.2.mono HSB.out⟩, ⟨.inr fun a ha => ⟨HN4.out.1.ne HSz.out.1 a ha, HN4.out.1.ne HSz.out.2 a ha⟩, .inr fun a ha => ⟨HN4.out.2.ne HSz.out.1 a ha, HN4.out.2.ne HSz.out.2 a ha⟩⟩, HAdd.out.ok, fun o E hh => HSr.out o E (by rw [HD.out]; exact .step HT.out HRE.out.2 (by rw [HRE.out.1]; exact hh)), below_set8 HB4.out (by have := HG1.out; have := HG0.out; omega) _ _ _ _ _ _ _ _⟩)
        generalize hW : ((((((((w4.setCell ⟨g1, 0, none⟩ (.int .i64 r.k)).setCell ⟨g1, 1, none⟩ (.int .i64 r.s)).setCell ⟨g1, 2, none⟩ (.int .i64 r.z)).setCell ⟨g1, 3, none⟩ (.int .u64 r.zc)).setCell ⟨g1, 4, none⟩ (.int .u64 r.ct)).setCell ⟨g1, 5, none⟩ (.int .i64 r.sm)).setCell ⟨g1, 6, none⟩ (.slice A3 r.P.length c3)).setCell ⟨g1, 7, none⟩ (.slice B3 r.Q.length d3)).alloc (.cells #[.int .i64 r.k, .int .i64 r.s, .int .i64 r.z, .int .u64 r.zc, .int .u64 r.ct, .int .i64 r.sm, .slice A3 r.P.length c3, .slice B3 r.Q.length d3] 25) = w6
        have hW' : (set8 w4 g1 (.int .i64 r.k) (.int .i64 r.s) (.int .i64 r.z) (.int .u64 r.zc) (.int .u64 r.ct) (.int .i64 r.sm) (.slice A3 r.P.length c3) (.slice B3 r.Q.length d3)).alloc (.cells #[.int .i64 r.k, .int .i64 r.s, .int .i64 r.z, .int .u64 r.zc, .int .u64 r.ct, .int .i64 r.sm, .slice A3 r.P.length c3, .slice B3 r.Q.length d3] 25) = w6 := hW
        rw [hW'] at HRn
        clear hW hW'
        go_roundw
        case rel => exact ⟨k + 1, by omega, by go_num, HRn⟩
        case measure => simp [intOf]; omega
      · have hok1 : (E != 0) = true := by simpa using hok
        have HZ := Lib.hid (show mAddO p q = zeroV by unfold mAddO; rw [HRE.out.2, if_neg hok])
        have HNE := Lib.hid hok
        clear hok x0 x1 x2 x3 x4 x5 x6 x7 e0 e1 e2 e3 e4 e5 e6 e7
        have HE := Lib.hid (show ∃ o E', SumR h0 rest o E' ∧ RetH w o E' (.returned (.tuple #[.agg #[.int .i64 0, .int .i64 0, .int .i64 0, .int .u64 0, .int .u64 0, .int .i64 0, .slice none 0 0, .slice none 0 0], .int .i64 E])) ((set8 w4 g0 (.int .i64 0) (.int .i64 0) (.int .i64 0) (.int .u64 0) (.int .u64 0) (.int .i64 0) (.slice none 0 0) (.slice none 0 0)).alloc (.cells #[.int .i64 r.k, .int .i64 r.s, .int .i64 r.z, .int .u64 r.zc, .int .u64 r.ct, .int .i64 r.sm, .slice A3 r.P.length c3, .slice B3 r.Q.length d3] 25)) from ⟨zeroV, E, HSr.out _ _ (by rw [HD.out, ← HRE.out.2]; exact .bad HT.out (by rw [HRE.out.2]; exact HNE.out)), RetH.zero ((below_set8 HB4.out (by have := HG0.out; omega) _ _ _ _ _ _ _ _).alloc (by rw [size_set8]; exact HB4.out.size) _)⟩)
        have HF := Lib.hid ((HX4.out.1.put8 (.int .i64 0) (.int .i64 0) (.int .i64 0) (.int .u64 0) (.int .u64 0) (.int .i64 0) (.slice none 0 0) (.slice none 0 0)).alloc (.cells #[.int .i64 r.k, .int .i64 r.s, .int .i64 r.z, .int .u64 r.zc, .int .u64 r.ct, .int .i64 r.sm, .slice A3 r.P.length c3, .slice B3 r.Q.length d3] 25))
        go_wp2_with fail
        clear z0 z1 z2 z3 z4 z5 z6 z7 f0 f1 f2 f3 f4 f5 f6 f7 v0 v1 v2 v3 v4 v5 v6 v7 l0 l1 l7
        generalize hW : ((((((((w4.setCell ⟨g0, 0, none⟩ (.int .i64 0)).setCell ⟨g0, 1, none⟩ (.int .i64 0)).setCell ⟨g0, 2, none⟩ (.int .i64 0)).setCell ⟨g0, 3, none⟩ (.int .u64 0)).setCell ⟨g0, 4, none⟩ (.int .u64 0)).setCell ⟨g0, 5, none⟩ (.int .i64 0)).setCell ⟨g0, 6, none⟩ (.slice none 0 0)).setCell ⟨g0, 7, none⟩ (.slice none 0 0)).alloc (.cells #[.int .i64 r.k, .int .i64 r.s, .int .i64 r.z, .int .u64 r.zc, .int .u64 r.ct, .int .i64 r.sm, .slice A3 r.P.length c3, .slice B3 r.Q.length d3] 25) = w9
        have hW' : (set8 w4 (g0) (.int .i64 0) (.int .i64 0) (.int .i64 0) (.int .u64 0) (.int .u64 0) (.int .i64 0) (.slice none 0 0) (.slice none 0 0)).alloc (.cells #[.int .i64 r.k, .int .i64 r.s, .int .i64 r.z, .int .u64 r.zc, .int .u64 r.ct, .int .i64 r.sm, .slice A3 r.P.length c3, .slice B3 r.Q.length d3] 25) = w9 := hW
        rw [hW'] at HE HF
        obtain ⟨z0, z1, z2, z3, z4, z5, z6, z7⟩ := HF.out.cells
        exact bodyPost_ret (v := .tuple #[.agg #[.int .i64 0, .int .i64 0, .int .i64 0, .int .u64 0, .int .u64 0, .int .i64 0, .slice none 0 0, .slice none 0 0], .int .i64 E]) (by simp [results, Try.results22, go_sem, z0, z1, z2, z3, z4, z5, z6, z7]) rfl HE.out
    · obtain rfl : k = M := by omega
      have hki : ¬ ((k : Int) < (k : Int)) := by omega
      have HE := Lib.hid (show ∃ o E', SumR h0 rest o E' ∧ RetH w o E' (.returned (.tuple #[.agg #[.int .i64 x.k, .int .i64 x.s, .int .i64 x.z, .int .u64 x.zc, .int .u64 x.ct, .int .i64 x.sm, .slice A1 x.P.length c1, .slice B1 x.Q.length d1], .int .i64 0])) (set8 wr g0 (.int .i64 x.k) (.int .i64 x.s) (.int .i64 x.z) (.int .u64 x.zc) (.int .u64 x.ct) (.int .i64 x.sm) (.slice A1 x.P.length c1) (.slice B1 x.Q.length d1)) from ⟨x, 0, HSr.out _ _ (by rw [List.drop_eq_nil_of_le (by have := HM.out; omega)]; exact .done x), A1, B1, c1, d1, rfl, HAr.out.1.set8n (or_l HEr.out.1) _ _ _ _ _ _ _ _, HAr.out.2.set8n (or_l HEr.out.2) _ _ _ _ _ _ _ _, below_set8 HBr.out (by have := HG0.out; omega) _ _ _ _ _ _ _ _, HNr.out.1, HNr.out.2⟩)
      have HF := Lib.hid (HXr.out.1.put8 (.int .i64 x.k) (.int .i64 x.s) (.int .i64 x.z) (.int .u64 x.zc) (.int .u64 x.ct) (.int .i64 x.sm) (.slice A1 x.P.length c1) (.slice B1 x.Q.length d1))
      obtain ⟨z0, z1, z2, z3, z4, z5, z6, z7⟩ := HXr.out.1.cells
      obtain ⟨f0, f1, f2, f3, f4, f5, f6, f7⟩ := HXr.out.1.frozen
      go_wp2_with fail
      clear x0 x1 x2 x3 x4 x5 x6 x7 z0 z1 z2 z3 z4 z5 z6 z7 f0 f1 f2 f3 f4 f5 f6 f7 l0 l1
      generalize hW : ((((((((wr.setCell ⟨g0, 0, none⟩ (.int .i64 x.k)).setCell ⟨g0, 1, none⟩ (.int .i64 x.s)).setCell ⟨g0, 2, none⟩ (.int .i64 x.z)).setCell ⟨g0, 3, none⟩ (.int .u64 x.zc)).setCell ⟨g0, 4, none⟩ (.int .u64 x.ct)).setCell ⟨g0, 5, none⟩ (.int .i64 x.sm)).setCell ⟨g0, 6, none⟩ (.slice A1 x.P.length c1)).setCell ⟨g0, 7, none⟩ (.slice B1 x.Q.length d1)) = w9
      have hW' : (set8 wr (g0) (.int .i64 x.k) (.int .i64 x.s) (.int .i64 x.z) (.int .u64 x.zc) (.int .u64 x.ct) (.int .i64 x.sm) (.slice A1 x.P.length c1) (.slice B1 x.Q.length d1)) = w9 := hW
      rw [hW'] at HE HF
      obtain ⟨z0, z1, z2, z3, z4, z5, z6, z7⟩ := HF.out.cells
      exact bodyPost_ret (v := .tuple #[.agg #[.int .i64 x.k, .int .i64 x.s, .int .i64 x.z, .int .u64 x.zc, .int .u64 x.ct, .int .i64 x.sm, .slice A1 x.P.length c1, .slice B1 x.Q.length d1], .int .i64 0]) (by simp [results, Try.results22, go_sem, z0, z1, z2, z3, z4, z5, z6, z7]) rfl HE.out
theorem sum_h (b off c0 n : Nat) (h0 : HV) (rest : List HV) (w : World) (hn : n = rest.length + 1) (hcap : n ≤ c0) (h : Hl w (some ⟨b, off, none⟩) (h0 :: rest)) (ho : ∀ x ∈ h0 :: rest, Ok x) :
    Calls Try.prog 22 #[.slice (some ⟨b, off, none⟩) n c0] w fun e w' => ∃ o E, SumR h0 rest o E ∧ RetH w o E e w' := by
  cases rest with
  | nil => exact (sum_one b off c0 n h0 w hn hcap h ho).mono fun e w' hr => ⟨h0, 0, .done h0, hr⟩
  | cons y r => exact sum_more b off c0 n h0 (y :: r) w hn hcap h ho (by simp at hn; omega)
end Go.Proofs.Ytbibhjcmdehdbaa

/-! Is one of many no counter? -/
namespace Go.Proofs.Ytbibhjcmdehdbaa
open Go.RowKit Go.Sort Go.Maps
set_option linter.unusedVariables false

def anyK (hs : List HV) : Bool := hs.any fun h => h.k != 0
theorem anyK_no {hs : List HV} (h : ∀ x ∈ hs, x.k = 0) : anyK hs = false := by
  unfold anyK
  rw [List.any_eq_false]
  intro x hx
  simp [h x hx]
theorem anyK_yes {hs : List HV} {x : HV} (hx : x ∈ hs) (h : x.k ≠ 0) : anyK hs = true := by
  unfold anyK
  rw [List.any_eq_true]
  exact ⟨x, hx, by simpa using h⟩
set_option maxHeartbeats 1000000 in
set_option maxRecDepth 100000 in
theorem rise1_any (v1 v2 v3 v4 v5 v6 v7 : Value) (k : Int) (w : World) :
    Calls Try.prog 56 #[.agg #[.int .i64 k, v1, v2, v3, v4, v5, v6, v7]] w fun e w' => e = .returned (.bool (k != 0)) ∧ Below w.heap.size w w' := by
  go_enter Try.func56, Try.ntmps56
  go_wp2_with fail
  go_ret
  exact ⟨rfl, (Below.refl _ _).alloc (Nat.le_refl _) _⟩
set_option maxHeartbeats 2000000 in
set_option maxRecDepth 100000 in
theorem indexk_any (b off c0 n : Nat) (hs : List HV) (w : World) (hn : n = hs.length) (h : Hl w (some ⟨b, off, none⟩) hs) :
    Calls Try.prog 95 #[.slice (some ⟨b, off, none⟩) n c0, .func (.func 56) #[] #[]] w fun e w' => ∃ i : Int, e = .returned (.int .i64 i) ∧ (anyK hs = true → 0 ≤ i) ∧ (anyK hs = false → i = -1) ∧ Below w.heap.size w w' := by
  have HN := Lib.hid hn
  have HH := Lib.hid h
  have hn1 : (n : Int) ≤ 1000000 := by have := h.1; omega
  clear hn h
  go_enter Try.func95, Try.ntmps95
  go_wp2_with fail
  go_loopw [8] (fun i wr => ∃ k : Nat, k ≤ n ∧ i = .int .i64 k ∧ Hid (∀ x ∈ hs.take k, x.k = 0) ∧ Hid (Below w.heap.size w wr)) (fun i _ => n - (intOf i).toNat)
  case atStart => exact ⟨0, by omega, rfl, Lib.hid (by simp), Lib.hid (Below.refl _ _)⟩
  case round =>
    obtain ⟨k, hk, rfl, HF, HB⟩ := hrel
    by_cases hlt : k < n
    · have hki : (k : Int) < (n : Int) := by omega
      obtain ⟨x, hx⟩ := getElem?_lt (l := hs) (k := k) (by have := HN.out; omega)
      obtain ⟨A, B, c, d, ⟨a0, a1, a2, a3, a4, a5, a6, a7⟩, hA, hB⟩ := hl_cells (HH.out.below HB.out) hx
      have HT := Lib.hid (take_snoc hs k x hx)
      have HM := Lib.hid (List.mem_of_getElem? hx)
      have hlb := block_lt_of_cell a0
      simp only at hlb
      clear hA hB hx
      go_wp2_with fail
      refine (rise1_any _ _ _ _ _ _ _ x.k wr).mono ?_
      rintro e w2 ⟨rfl, hb⟩
      have HB2 := Lib.hid (HB.out.trans (hb.mono HB.out.size))
      clear hb a0 a1 a2 a3 a4 a5 a6 a7 hlb
      by_cases h0 : x.k = 0
      · have d1 : (x.k != 0) = false := by simpa using h0
        have HF2 := Lib.hid (show ∀ x ∈ hs.take (k + 1), x.k = 0 from by rw [HT.out]; exact all_snocH HF.out h0)
        rw [d1]
        clear h0 d1
        go_wp2_with fail
        go_roundw
        case rel => exact ⟨k + 1, by omega, by go_num, HF2, HB2⟩
        case measure => simp [intOf]; omega
      · have d1 : (x.k != 0) = true := by simpa using h0
        have HY := Lib.hid (anyK_yes HM.out h0)
        rw [d1]
        clear h0 d1
        go_wp2_with fail
        go_ret
        exact ⟨k, rfl, fun _ => by omega, fun hh => by rw [HY.out] at hh; exact absurd hh (by decide), HB2.out⟩
    · obtain rfl : k = n := by omega
      have hki : ¬ ((k : Int) < (k : Int)) := by omega
      have HY := Lib.hid (show anyK hs = false from anyK_no (fun x hx => HF.out x (by rw [List.take_of_length_le (by have := HN.out; omega)]; exact hx)))
      go_wp2_with fail
      go_ret
      exact ⟨-1, rfl, fun hh => by rw [HY.out] at hh; exact absurd hh (by decide), fun _ => rfl, HB.out⟩
set_option maxHeartbeats 1000000 in
set_option maxRecDepth 100000 in
theorem contains_any (b off c0 n : Nat) (hs : List HV) (w : World) (hn : n = hs.length) (h : Hl w (some ⟨b, off, none⟩) hs) :
    Calls Try.prog 55 #[.slice (some ⟨b, off, none⟩) n c0, .func (.func 56) #[] #[]] w fun e w' => e = .returned (.bool (anyK hs)) ∧ Below w.heap.size w w' := by
  have HH := Lib.hid (And.intro hn h)
  clear hn h
  go_enter Try.func55, Try.ntmps55
  go_wp2_with fail
  refine (indexk_any b off c0 n hs w HH.out.1 HH.out.2).mono ?_
  rintro e w2 ⟨i, rfl, h1, h2, hb⟩
  have HB := Lib.hid hb
  clear hb
  rcases ha : anyK hs with _ | _
  · obtain rfl := h2 ha
    clear h1 h2
    go_wp2_with fail
    go_ret
    exact ⟨ret_bool ha.symm, HB.out⟩
  · have h3 := h1 ha
    have d1 : decide (0 ≤ i) = true := by simpa using h3
    clear h1 h2 h3
    go_wp2_with fail
    go_ret
    exact ⟨ret_bool ha.symm, HB.out⟩
end Go.Proofs.Ytbibhjcmdehdbaa

/-! Rise. -/
namespace Go.Proofs.Ytbibhjcmdehdbaa
open Go.RowKit Go.Sort Go.Maps
set_option linter.unusedVariables false

/-- behind 'r, e := F(..)': a box of its own, and an error -/
def RetCut (w3 : World) (R : HV → Int → Prop) (s7 s8 : Value) (wx : World) : Prop :=
  ∃ (g : Nat) (r : HV) (E : Int) (A3 B3 : Option Addr) (c3 d3 : Nat), s7 = .pointer (some ⟨g, 0, none⟩) ∧ s8 = .int .i64 E ∧ R r E ∧ w3.heap.size ≤ g ∧ Box wx g (.int .i64 r.k) (.int .i64 r.s) (.int .i64 r.z) (.int .u64 r.zc) (.int .u64 r.ct) (.int .i64 r.sm) (.slice A3 r.P.length c3) (.slice B3 r.Q.length d3) ∧ (Bk wx A3 r.P ∧ Bk wx B3 r.Q) ∧ (NewA w3 A3 ∧ NewA w3 B3) ∧ Below w3.heap.size w3 wx
def PostA (w3 : World) (R : HV → Int → Prop) (e : Ending) (w' : World) : Prop :=
  ∃ (r : HV) (E : Int) (A3 B3 : Option Addr) (c3 d3 : Nat), e = .returned (.tuple #[.agg #[.int .i64 r.k, .int .i64 r.s, .int .i64 r.z, .int .u64 r.zc, .int .u64 r.ct, .int .i64 r.sm, .slice A3 r.P.length c3, .slice B3 r.Q.length d3], .int .i64 E]) ∧ R r E ∧ (Bk w' A3 r.P ∧ Bk w' B3 r.Q) ∧ Below w3.heap.size w3 w' ∧ (NewA w3 A3 ∧ NewA w3 B3)
def PostB (w3 : World) (R : HV → Int → Prop) (e : Ending) (w' : World) : Prop :=
  ∃ (r : HV) (E : Int) (A3 B3 : Option Addr) (c3 d3 : Nat), e = .returned (.tuple #[.agg #[.int .i64 r.k, .int .i64 r.s, .int .i64 r.z, .int .u64 r.zc, .int .u64 r.ct, .int .i64 r.sm, .slice A3 r.P.length c3, .slice B3 r.Q.length d3], .int .i64 E]) ∧ R r E ∧ (Bk w' A3 r.P ∧ Bk w' B3 r.Q) ∧ Below w3.heap.size w3 w' ∧ (NewA w3 A3 ∧ NewA w3 B3) ∧ ((∀ a, A3 = some a → a.block ≠ w3.heap.size) ∧ (∀ a, B3 = some a → a.block ≠ w3.heap.size)) ∧ Box w' w3.heap.size (.int .i64 0) (.int .i64 0) (.int .i64 0) (.int .u64 0) (.int .u64 0) (.int .i64 0) (.slice none 0 0) (.slice none 0 0)
theorem postA {w3 W w' : World} {R : HV → Int → Prop} {r : HV} {E : Int} {e : Ending} (h0 : Below w3.heap.size w3 W) (hR : R r E) (h : RetH W r E e w') : PostA w3 R e w' := by
  obtain ⟨A3, B3, c3, d3, he, hA, hB, hb, nA, nB⟩ := h
  exact ⟨r, E, A3, B3, c3, d3, he, hR, ⟨hA, hB⟩, h0.trans (hb.mono h0.size), nA.mono h0.size, nB.mono h0.size⟩
theorem postB {w3 W w' : World} {R : HV → Int → Prop} {r : HV} {E : Int} {e : Ending} (h0 : Below w3.heap.size w3 W) (hz : Box W w3.heap.size (.int .i64 0) (.int .i64 0) (.int .i64 0) (.int .u64 0) (.int .u64 0) (.int .i64 0) (.slice none 0 0) (.slice none 0 0)) (hR : R r E) (h : RetH W r E e w') : PostB w3 R e w' := by
  obtain ⟨A3, B3, c3, d3, he, hA, hB, hb, nA, nB⟩ := h
  exact ⟨r, E, A3, B3, c3, d3, he, hR, ⟨hA, hB⟩, h0.trans (hb.mono h0.size), ⟨nA.mono h0.size, nB.mono h0.size⟩, ⟨nA.ne hz.lt, nB.ne hz.lt⟩, hz.below hb⟩
theorem RetCut.after {w3 w4 : World} {R : HV → Int → Prop} {r : HV} {E : Int} {A3 B3 : Option Addr} {c3 d3 : Nat} (hR : R r E) (hA : Bk w4 A3 r.P ∧ Bk w4 B3 r.Q) (hb : Below w3.heap.size w3 w4) (nA : NewA w3 A3 ∧ NewA w3 B3) :
    RetCut w3 R (.pointer (some ⟨w4.heap.size, 0, none⟩)) (.int .i64 E) (w4.alloc (.cells #[.int .i64 r.k, .int .i64 r.s, .int .i64 r.z, .int .u64 r.zc, .int .u64 r.ct, .int .i64 r.sm, .slice A3 r.P.length c3, .slice B3 r.Q.length d3] 25)) := by
  have hw : Below w4.heap.size w4 (w4.alloc (.cells #[.int .i64 r.k, .int .i64 r.s, .int .i64 r.z, .int .u64 r.zc, .int .u64 r.ct, .int .i64 r.sm, .slice A3 r.P.length c3, .slice B3 r.Q.length d3] 25)) := (Below.refl _ _).alloc (Nat.le_refl _) _
  exact ⟨w4.heap.size, r, E, A3, B3, c3, d3, rfl, rfl, hR, hb.size, Box.new w4 _ _ _ _ _ _ _ _, ⟨hA.1.below hw, hA.2.below hw⟩, nA, hb.alloc hb.size _⟩
theorem RetCut.beforeC {w3 w4 : World} {R : HV → Int → Prop} {r : HV} {E : Int} {A3 B3 : Option Addr} {c3 d3 : Nat} (hR : R r E) (hA : Bk w4 A3 r.P ∧ Bk w4 B3 r.Q) (hb : Below w3.heap.size w3 w4) (nA : NewA w3 A3 ∧ NewA w3 B3) (ne : (∀ a, A3 = some a → a.block ≠ w3.heap.size) ∧ (∀ a, B3 = some a → a.block ≠ w3.heap.size)) (hz : Box w4 w3.heap.size (.int .i64 0) (.int .i64 0) (.int .i64 0) (.int .u64 0) (.int .u64 0) (.int .i64 0) (.slice none 0 0) (.slice none 0 0)) :
    RetCut w3 R (.pointer (some ⟨w3.heap.size, 0, none⟩)) (.int .i64 E) ((((((((w4.setCell ⟨w3.heap.size, 0, none⟩ (.int .i64 r.k)).setCell ⟨w3.heap.size, 1, none⟩ (.int .i64 r.s)).setCell ⟨w3.heap.size, 2, none⟩ (.int .i64 r.z)).setCell ⟨w3.heap.size, 3, none⟩ (.int .u64 r.zc)).setCell ⟨w3.heap.size, 4, none⟩ (.int .u64 r.ct)).setCell ⟨w3.heap.size, 5, none⟩ (.int .i64 r.sm)).setCell ⟨w3.heap.size, 6, none⟩ (.slice A3 r.P.length c3)).setCell ⟨w3.heap.size, 7, none⟩ (.slice B3 r.Q.length d3)) :=
  ⟨w3.heap.size, r, E, A3, B3, c3, d3, rfl, rfl, hR, Nat.le_refl _, hz.put8 _ _ _ _ _ _ _ _, ⟨hA.1.set8 ne.1 _ _ _ _ _ _ _ _, hA.2.set8 ne.2 _ _ _ _ _ _ _ _⟩, nA, below_set8 hb (Nat.le_refl _) _ _ _ _ _ _ _ _⟩
theorem Bk.ne_lt' {w : World} {A : Option Addr} {l : List (Int × Int)} (h : Bk w A l) {g : Nat} (hg : w.heap.size ≤ g) : l.length = 0 ∨ ∀ a, A = some a → a.block ≠ g := h.old hg
def SubR (a b r : HV) (E : Int) : Prop := ∃ x y, Two a b x y ∧ mSubO x y = r ∧ mSubE x y = E
def AddR (a b r : HV) (E : Int) : Prop := ∃ x y, Two a b x y ∧ mAddO x y = r ∧ mAddE x y = E
theorem RetCut.drew {w3 : World} {R : HV → Int → Prop} {s7 s8 : Value} {wx : World} (h : RetCut w3 R s7 s8 wx) : RetCut w3 R s7 s8 wx.drew := by
  obtain ⟨g, r, E, A3, B3, c3, d3, h1, h2, h3, h4, h5, h6, h7, h8⟩ := h
  exact ⟨g, r, E, A3, B3, c3, d3, h1, h2, h3, h4, h5, h6, h7, Below.drew h8⟩
def RisRel (w : World) (g0 g1 : Nat) (h0 : HV) (rest : List HV) (k : Nat) (wr : World) : Prop :=
  ∃ (x p : HV) (A1 B1 : Option Addr) (c1 d1 : Nat), (Box wr g0 (.int .i64 0) (.int .i64 0) (.int .i64 0) (.int .u64 0) (.int .u64 0) (.int .i64 0) (.slice none 0 0) (.slice none 0 0) ∧ Box wr g1 (.int .i64 x.k) (.int .i64 x.s) (.int .i64 x.z) (.int .u64 x.zc) (.int .u64 x.ct) (.int .i64 x.sm) (.slice A1 x.P.length c1) (.slice B1 x.Q.length d1)) ∧ (Bk wr A1 x.P ∧ Bk wr B1 x.Q) ∧ (NewA w A1 ∧ NewA w B1) ∧ ((x.P.length = 0 ∨ ∀ a, A1 = some a → a.block ≠ g0 ∧ a.block ≠ g1) ∧ (x.Q.length = 0 ∨ ∀ a, B1 = some a → a.block ≠ g0 ∧ a.block ≠ g1)) ∧ Ok x ∧ ((h0 :: rest)[k]? = some p ∧ ∀ o E, RiseR x p (rest.drop k) o E → RiseR (emptyV h0.s) h0 rest o E) ∧ Below w.heap.size w wr
theorem RisRel.below {w : World} {g0 g1 : Nat} {h0 : HV} {rest : List HV} {k : Nat} {wr wr' : World} (hb : Below wr.heap.size wr wr') (h : RisRel w g0 g1 h0 rest k wr) : RisRel w g0 g1 h0 rest k wr' := by
  obtain ⟨x, p, A1, B1, c1, d1, hX, hA, hN, hNe, hO, hS, hB⟩ := h
  exact ⟨x, p, A1, B1, c1, d1, ⟨hX.1.below hb, hX.2.below hb⟩, ⟨hA.1.below hb, hA.2.below hb⟩, hN, hNe, hO, hS, hB.trans (hb.mono hB.size)⟩
set_option maxHeartbeats 4000000 in
set_option maxRecDepth 100000 in
theorem rise_h (b off c0 n : Nat) (h0 : HV) (rest : List HV) (w : World) (hn : n = rest.length + 1) (hcap : n ≤ c0) (h2 : 2 ≤ n) (h : Hl w (some ⟨b, off, none⟩) (h0 :: rest)) (ho : ∀ x ∈ h0 :: rest, Ok x) (hk : anyK (h0 :: rest) = false) :
    Calls Try.prog 20 #[.slice (some ⟨b, off, none⟩) n c0] w (fun e w' => ∃ o E, RiseR (emptyV h0.s) h0 rest o E ∧ RetH w o E e w') := by
  have hcne : ¬ c0 = 1 := by omega
  have HN := Lib.hid hn
  have hn1 : (n : Int) ≤ 1000000 := by have := h.1; simp at this; omega
  have hn2 : (0 : Int) < n := by omega
  have hn3 : decide ((n : Int) < 2) = false := by simp; omega
  have hn4 : (1 : Int) ≤ n := by omega
  have hc1 : (n : Int) ≤ c0 := by omega
  have HO := Lib.hid ho
  have HH := Lib.hid h
  have HK := Lib.hid hk
  have hlen := Lib.hid (show n = (h0 :: rest).length by simp; exact hn)
  clear hn ho h hk h2
  have hb0 := (Below.refl w.heap.size w).alloc (Nat.le_refl _) (.cells #[.int .i64 0, .int .i64 0, .int .i64 0, .int .u64 0, .int .u64 0, .int .i64 0, .slice none 0 0, .slice none 0 0] 25)
  have HX0 := Lib.hid (Box.new w (.int .i64 0) (.int .i64 0) (.int .i64 0) (.int .u64 0) (.int .u64 0) (.int .i64 0) (.slice none 0 0) (.slice none 0 0))
  have HB0 := Lib.hid hb0
  clear hb0
  go_enter Try.func20, Try.ntmps20
  go_wp2_with fail
  obtain ⟨g0, hg0⟩ : ∃ g, w.heap.size = g := ⟨_, rfl⟩
  rw [hg0] at HX0 ⊢
  have HG0 := Lib.hid hg0
  clear hg0
  generalize w.alloc (.cells #[.int .i64 0, .int .i64 0, .int .i64 0, .int .u64 0, .int .u64 0, .int .i64 0, .slice none 0 0, .slice none 0 0] 25) = w0 at *
  refine (contains_any b off c0 n (h0 :: rest) w0 hlen.out (HH.out.below HB0.out)).mono ?_
  rw [HK.out]
  rintro e w1 ⟨rfl, hb⟩
  have HB1 := Lib.hid (HB0.out.trans (hb.mono HB0.out.size))
  have HX1 := Lib.hid (HX0.out.below hb)
  clear hb HX0
  obtain ⟨A0, B0, a0c, b0c, ⟨q0, q1, q2, q3, q4, q5, q6, q7⟩, hA, hB⟩ := hl_cells (HH.out.below HB1.out) (j := 0) (x := h0) rfl
  simp only [Nat.zero_mul, Nat.add_zero] at q0 q1 q2 q3 q4 q5 q6 q7
  have hlq := block_lt_of_cell q0
  simp only at hlq
  clear hA hB
  go_wp2_with fail
  clear q0 q1 q2 q3 q4 q5 q6 q7 hlq
  refine (empty_any 0 h0.s w1).mono ?_
  rintro e w2 ⟨rfl, hb⟩
  have HB2 := Lib.hid (HB1.out.trans (hb.mono HB1.out.size))
  have HX2 := Lib.hid (HX1.out.below hb)
  clear hb HX1
  go_wp2_with fail
  have hw : Below w2.heap.size w2 (w2.alloc (.cells #[.int .i64 0, .int .i64 h0.s, .int .i64 (-524288), .int .u64 0, .int .u64 0, .int .i64 0, .slice none 0 0, .slice none 0 0] 25)) := (Below.refl _ _).alloc (Nat.le_refl _) _
  have HX3 := Lib.hid (And.intro (HX2.out.below hw) (Box.new w2 (.int .i64 0) (.int .i64 h0.s) (.int .i64 (-524288)) (.int .u64 0) (.int .u64 0) (.int .i64 0) (.slice none 0 0) (.slice none 0 0)))
  have HB3 := Lib.hid (HB2.out.trans (hw.mono HB2.out.size))
  have HG1 := Lib.hid (show g0 < w2.heap.size from HX2.out.lt)
  clear hw HX2
  obtain ⟨g1, hg1⟩ : ∃ g, w2.heap.size = g := ⟨_, rfl⟩
  rw [hg1] at HX3 HG1 ⊢
  clear hg1
  generalize w2.alloc (.cells #[.int .i64 0, .int .i64 h0.s, .int .i64 (-524288), .int .u64 0, .int .u64 0, .int .i64 0, .slice none 0 0, .slice none 0 0] 25) = w3 at *
  obtain ⟨M, hM⟩ : ∃ M, n - 1 = M := ⟨_, rfl⟩
  rw [hM]
  have HM := Lib.hid (show M = rest.length by have := HN.out; omega)
  have hM1 : (M : Int) ≤ 1000000 := by omega
  have hMn : M < n := by omega
  clear hM
  have HR0 := Lib.hid (show RisRel w g0 g1 h0 rest 0 w3 from ⟨emptyV h0.s, h0, none, none, 0, 0, HX3.out, ⟨Bk.nil _ _, Bk.nil _ _⟩, ⟨fun a ha => (by cases ha), fun a ha => (by cases ha)⟩, ⟨.inl rfl, .inl rfl⟩, empty_ok (HO.out h0 (by simp)).s, ⟨rfl, fun o E hh => hh⟩, HB3.out⟩)
  clear HX3 HB1 HB2 HB3
  go_loopw [24] (fun i wr => ∃ k : Nat, k ≤ M ∧ i = .int .i64 k ∧ Hid (RisRel w g0 g1 h0 rest k wr)) (fun i _ => M - (intOf i).toNat)
  case atStart => exact ⟨0, by omega, rfl, HR0⟩
  case round =>
    obtain ⟨k, hk, rfl, HR⟩ := hrel
    clear HR0
    obtain ⟨x, p, A1, B1, c1, d1, hX, hA, hN, hNe, hO, hS, hB⟩ := HR.out
    have HXr := Lib.hid hX
    have HAr := Lib.hid hA
    have HNr := Lib.hid hN
    have HEr := Lib.hid hNe
    have HOr := Lib.hid hO
    have HPk := Lib.hid hS.1
    have HSr := Lib.hid hS.2
    have HBr := Lib.hid hB
    clear hX hA hN hNe hO hS hB HR
    by_cases hlt : k < M
    · have hki : (k : Int) < (M : Int) := by omega
      have hkn : (k : Int) < (n : Int) := by omega
      obtain ⟨y, hy⟩ := getElem?_lt (l := rest) (k := k) (by have := HM.out; omega)
      have HYk := Lib.hid (show (h0 :: rest)[k + 1]? = some y by simpa using hy)
      have HD := Lib.hid (drop_at' hy)
      have HOy := Lib.hid (HO.out y (by have := List.mem_of_getElem? hy; simp [this]))
      have HOp := Lib.hid (HO.out p (List.mem_of_getElem? HPk.out))
      obtain ⟨A2, B2, c2, d2, ⟨q0, q1, q2, q3, q4, q5, q6, q7⟩, hA2, hB2⟩ := hl_cells (HH.out.below HBr.out) HYk.out
      have hoff : off + (k + 1) * 8 = off + 8 + k * 8 := by omega
      rw [hoff] at q0 q1 q2 q3 q4 q5 q6 q7
      have hlq := block_lt_of_cell q0
      simp only at hlq
      have hw : Below wr.heap.size wr (wr.alloc (.cells #[.int .i64 y.k, .int .i64 y.s, .int .i64 y.z, .int .u64 y.zc, .int .u64 y.ct, .int .i64 y.sm, .slice A2 y.P.length c2, .slice B2 y.Q.length d2] 25)) := (Below.refl _ _).alloc (Nat.le_refl _) _
      have HX4 := Lib.hid (And.intro (HXr.out.1.below hw) (And.intro (HXr.out.2.below hw) (Box.new wr (.int .i64 y.k) (.int .i64 y.s) (.int .i64 y.z) (.int .u64 y.zc) (.int .u64 y.ct) (.int .i64 y.sm) (.slice A2 y.P.length c2) (.slice B2 y.Q.length d2))))
      have HA4 := Lib.hid (And.intro (And.intro (HAr.out.1.below hw) (HAr.out.2.below hw)) (And.intro (hA2.below hw) (hB2.below hw)))
      have HB4 := Lib.hid (HBr.out.trans (hw.mono HBr.out.size))
      have HG2 := Lib.hid (And.intro HXr.out.1.lt HXr.out.2.lt)
      clear hw hA2 hB2 hoff hy
      go_upto_region 9 with fail
      clear q0 q1 q2 q3 q4 q5 q6 q7 hlq
      obtain ⟨g2, hg2⟩ : ∃ g, wr.heap.size = g := ⟨_, rfl⟩
      rw [hg2] at HX4 HG2 ⊢
      clear hg2
      generalize wr.alloc (.cells #[.int .i64 y.k, .int .i64 y.s, .int .i64 y.z, .int .u64 y.zc, .int .u64 y.ct, .int .i64 y.sm, .slice A2 y.P.length c2, .slice B2 y.Q.length d2] 25) = w4 at *
      clear HXr HAr HBr
      obtain ⟨A4, B4, c4, d4, ⟨q0, q1, q2, q3, q4, q5, q6, q7⟩, hA4, hB4⟩ := hl_cells (HH.out.below HB4.out) HPk.out
      have hlq := block_lt_of_cell q0
      simp only at hlq
      have HC := Lib.hid (fun (W : World) (hW : Below w4.heap.size w4 W) => sub_h y p A2 B2 A4 B4 c2 d2 c4 d4 W (HA4.out.2.1.below hW) (HA4.out.2.2.below hW) (hA4.below hW) (hB4.below hW) HOy.out HOp.out)
      have HCa := Lib.hid (fun (W : World) (hW : Below w4.heap.size w4 W) => (HC.out W hW).mono (fun e w' hr => show PostA w4 (SubR y p) e w' from by obtain ⟨x', y', ht, h⟩ := hr; exact postA hW ⟨x', y', ht, rfl, rfl⟩ h))
      have HCb := Lib.hid (fun (W : World) (hW : Below w4.heap.size w4 W) (hz : Box W w4.heap.size (.int .i64 0) (.int .i64 0) (.int .i64 0) (.int .u64 0) (.int .u64 0) (.int .i64 0) (.slice none 0 0) (.slice none 0 0)) => (HC.out W hW).mono (fun e w' hr => show PostB w4 (SubR y p) e w' from by obtain ⟨x', y', ht, h⟩ := hr; exact postB hW hz ⟨x', y', ht, rfl, rfl⟩ h))
      clear hA4 hB4
      obtain ⟨y0, y1, y2, y3, y4, y5, y6, y7⟩ := HX4.out.2.2.cells
      have l2 := HX4.out.2.2.lt
      go_cut [7, 8] from 29 to 38 (fun s7 s8 wx => RetCut w4 (SubR y p) s7 s8 wx)
      have hq0 : Below w4.heap.size w4 w4 := Below.refl _ _
      have hq1 : Below w4.heap.size w4 w4.drew := Below.drew (Below.refl _ _)
      have hq2 : Below w4.heap.size w4 (w4.alloc (.cells #[.int .i64 0, .int .i64 0, .int .i64 0, .int .u64 0, .int .u64 0, .int .i64 0, .slice none 0 0, .slice none 0 0] 25)) := (Below.refl _ _).alloc (Nat.le_refl _) _
      have hq3 : Below w4.heap.size w4 (w4.alloc (.cells #[.int .i64 0, .int .i64 0, .int .i64 0, .int .u64 0, .int .u64 0, .int .i64 0, .slice none 0 0, .slice none 0 0] 25)).drew := Below.drew hq2
      have hq4 : Below w4.heap.size w4 (w4.drew.alloc (.cells #[.int .i64 0, .int .i64 0, .int .i64 0, .int .u64 0, .int .u64 0, .int .i64 0, .slice none 0 0, .slice none 0 0] 25)) := hq1.alloc (Nat.le_refl _) _
      have hbz2 : Box (w4.alloc (.cells #[.int .i64 0, .int .i64 0, .int .i64 0, .int .u64 0, .int .u64 0, .int .i64 0, .slice none 0 0, .slice none 0 0] 25)) w4.heap.size (.int .i64 0) (.int .i64 0) (.int .i64 0) (.int .u64 0) (.int .u64 0) (.int .i64 0) (.slice none 0 0) (.slice none 0 0) := Box.new w4 (.int .i64 0) (.int .i64 0) (.int .i64 0) (.int .u64 0) (.int .u64 0) (.int .i64 0) (.slice none 0 0) (.slice none 0 0)
      have hbz3 : Box (w4.alloc (.cells #[.int .i64 0, .int .i64 0, .int .i64 0, .int .u64 0, .int .u64 0, .int .i64 0, .slice none 0 0, .slice none 0 0] 25)).drew w4.heap.size (.int .i64 0) (.int .i64 0) (.int .i64 0) (.int .u64 0) (.int .u64 0) (.int .i64 0) (.slice none 0 0) (.slice none 0 0) := hbz2
      have hbz4 : Box (w4.drew.alloc (.cells #[.int .i64 0, .int .i64 0, .int .i64 0, .int .u64 0, .int .u64 0, .int .i64 0, .slice none 0 0, .slice none 0 0] 25)) w4.heap.size (.int .i64 0) (.int .i64 0) (.int .i64 0) (.int .u64 0) (.int .u64 0) (.int .i64 0) (.slice none 0 0) (.slice none 0 0) := Box.new w4.drew (.int .i64 0) (.int .i64 0) (.int .i64 0) (.int .u64 0) (.int .u64 0) (.int .i64 0) (.slice none 0 0) (.slice none 0 0)
      have HQ := Lib.hid (And.intro hq0 (And.intro hq1 (And.intro hq2 (And.intro hq3 hq4))))
      have HBZ := Lib.hid (And.intro hbz2 (And.intro hbz3 hbz4))
      clear hq0 hq1 hq2 hq3 hq4 hbz2 hbz3 hbz4
      case first =>
        go_region_with (go_at_call 17; first
          | ((with_reducible refine (HCb.out _ ?q0 ?q1).mono ?_); (case q1 => with_reducible first | exact HBZ.out.1 | exact HBZ.out.2.1 | exact HBZ.out.2.2); (case q0 => with_reducible first | exact HQ.out.2.2.1 | exact HQ.out.2.2.2.1 | exact HQ.out.2.2.2.2); rintro e w5 ⟨r, E, A3, B3, c3, d3, rfl, hT, hA, hb, nA, hne, hz⟩; have HT := Lib.hid hT; have HR5 := Lib.hid (And.intro hA (And.intro hb nA)); have HZZ := Lib.hid (And.intro hne hz); obtain ⟨z0, z1, z2, z3, z4, z5, z6, z7⟩ := hz.cells; obtain ⟨f0, f1, f2, f3, f4, f5, f6, f7⟩ := hz.frozen; have lz := hz.lt; clear hT hA hb nA hne hz)
          | ((with_reducible refine (HCa.out _ ?q0).mono ?_); (case q0 => with_reducible first | exact HQ.out.1 | exact HQ.out.2.1); rintro e w5 ⟨r, E, A3, B3, c3, d3, rfl, hT, hA, hb, nA⟩; have HT := Lib.hid hT; have HR5 := Lib.hid (And.intro hA (And.intro hb nA)); clear hT hA hb nA)
          | fail)
        all_goals (go_wp2_with fail)
        all_goals go_meet
        all_goals first
          | (have _ := HZZ; with_reducible exact RetCut.beforeC HT.out HR5.out.1 HR5.out.2.1 HR5.out.2.2 HZZ.out.1 HZZ.out.2)
          | with_reducible exact RetCut.after HT.out HR5.out.1 HR5.out.2.1 HR5.out.2.2
          | trace_state
      case rest =>
        obtain ⟨g, r, E, A3, B3, c3, d3, rfl, rfl, hR, hg, hz, hA, hN, hb⟩ := hcut
        obtain ⟨wx, hwx⟩ : ∃ W, W = wc := ⟨_, rfl⟩
        subst hwx
        obtain ⟨x', y', htw, hr, hE⟩ := hR
        have HTw := Lib.hid htw
        have HrE := Lib.hid (And.intro hr hE)
        have HXc := Lib.hid (And.intro (HX4.out.1.below hb) (And.intro (HX4.out.2.1.below hb) (And.intro (HX4.out.2.2.below hb) hz)))
        have HAc := Lib.hid (And.intro (And.intro (HA4.out.1.1.below hb) (HA4.out.1.2.below hb)) (And.intro (HA4.out.2.1.below hb) (HA4.out.2.2.below hb)))
        have HA3 := Lib.hid hA
        have HBc := Lib.hid (HB4.out.trans (hb.mono HB4.out.size))
        have HL4 := Lib.hid (And.intro HX4.out.1.lt (And.intro HX4.out.2.1.lt (And.intro HX4.out.2.2.lt hg)))
        clear htw hr hE hz hA hN hb hg HX4 HB4 q0 q1 q2 q3 q4 q5 q6 q7 hlq y0 y1 y2 y3 y4 y5 y6 y7 l2 HC HCa HCb
        by_cases h21 : E = 21
        · subst h21
          have HMore := Lib.hid (show MoreR y p y 0 from .all HTw.out HrE.out.2)
          have HOm := HOy
          have ne1 : ¬ g1 = g := by have := HL4.out; omega
          have en1 : ¬ g = g1 := by have := HL4.out; omega
          obtain ⟨x0, x1, x2, x3, x4, x5, x6, x7⟩ := HXc.out.2.1.cells
          obtain ⟨y0, y1, y2, y3, y4, y5, y6, y7⟩ := HXc.out.2.2.1.cells
          obtain ⟨z0, z1, z2, z3, z4, z5, z6, z7⟩ := HXc.out.2.2.2.cells
          obtain ⟨f0, f1, f2, f3, f4, f5, f6, f7⟩ := HXc.out.2.2.2.frozen
          have l1 := HXc.out.2.1.lt
          have l2 := HXc.out.2.2.1.lt
          have l3 := HXc.out.2.2.2.lt
          go_wp2_with fail
          clear x0 x1 x2 x3 x4 x5 x6 x7 y0 y1 y2 y3 y4 y5 y6 y7 z0 z1 z2 z3 z4 z5 z6 z7 f0 f1 f2 f3 f4 f5 f6 f7 l1 l2 l3 ne1 en1
          have HXy := Lib.hid (And.intro (Box.off8 (g' := g) HXc.out.1 (by have := HL4.out; omega) (.int .i64 y.k) (.int .i64 y.s) (.int .i64 y.z) (.int .u64 y.zc) (.int .u64 y.ct) (.int .i64 y.sm) (.slice A2 y.P.length c2) (.slice B2 y.Q.length d2)) (And.intro (Box.off8 (g' := g) HXc.out.2.1 (by have := HL4.out; omega) (.int .i64 y.k) (.int .i64 y.s) (.int .i64 y.z) (.int .u64 y.zc) (.int .u64 y.ct) (.int .i64 y.sm) (.slice A2 y.P.length c2) (.slice B2 y.Q.length d2)) (HXc.out.2.2.2.put8 (.int .i64 y.k) (.int .i64 y.s) (.int .i64 y.z) (.int .u64 y.zc) (.int .u64 y.ct) (.int .i64 y.sm) (.slice A2 y.P.length c2) (.slice B2 y.Q.length d2))))
          have HAy := Lib.hid (And.intro (And.intro (Bk.set8n (g := g) HAc.out.1.1 (HA4.out.1.1.ne_lt' HL4.out.2.2.2) (.int .i64 y.k) (.int .i64 y.s) (.int .i64 y.z) (.int .u64 y.zc) (.int .u64 y.ct) (.int .i64 y.sm) (.slice A2 y.P.length c2) (.slice B2 y.Q.length d2)) (Bk.set8n (g := g) HAc.out.1.2 (HA4.out.1.2.ne_lt' HL4.out.2.2.2) (.int .i64 y.k) (.int .i64 y.s) (.int .i64 y.z) (.int .u64 y.zc) (.int .u64 y.ct) (.int .i64 y.sm) (.slice A2 y.P.length c2) (.slice B2 y.Q.length d2))) (And.intro (Bk.set8n (g := g) HAc.out.2.1 (HA4.out.2.1.ne_lt' HL4.out.2.2.2) (.int .i64 y.k) (.int .i64 y.s) (.int .i64 y.z) (.int .u64 y.zc) (.int .u64 y.ct) (.int .i64 y.sm) (.slice A2 y.P.length c2) (.slice B2 y.Q.length d2)) (Bk.set8n (g := g) HAc.out.2.2 (HA4.out.2.2.ne_lt' HL4.out.2.2.2) (.int .i64 y.k) (.int .i64 y.s) (.int .i64 y.z) (.int .u64 y.zc) (.int .u64 y.ct) (.int .i64 y.sm) (.slice A2 y.P.length c2) (.slice B2 y.Q.length d2))))
          have HBy := Lib.hid (below_set8 (g := g) HBc.out (by have := HL4.out; have := HG0.out; omega) (.int .i64 y.k) (.int .i64 y.s) (.int .i64 y.z) (.int .u64 y.zc) (.int .u64 y.ct) (.int .i64 y.sm) (.slice A2 y.P.length c2) (.slice B2 y.Q.length d2))
          generalize hW : ((((((((wx.setCell ⟨g, 0, none⟩ (.int .i64 y.k)).setCell ⟨g, 1, none⟩ (.int .i64 y.s)).setCell ⟨g, 2, none⟩ (.int .i64 y.z)).setCell ⟨g, 3, none⟩ (.int .u64 y.zc)).setCell ⟨g, 4, none⟩ (.int .u64 y.ct)).setCell ⟨g, 5, none⟩ (.int .i64 y.sm)).setCell ⟨g, 6, none⟩ (.slice A2 y.P.length c2)).setCell ⟨g, 7, none⟩ (.slice B2 y.Q.length d2)) = wy
          have hW' : set8 wx g (.int .i64 y.k) (.int .i64 y.s) (.int .i64 y.z) (.int .u64 y.zc) (.int .u64 y.ct) (.int .i64 y.sm) (.slice A2 y.P.length c2) (.slice B2 y.Q.length d2) = wy := hW
          rw [hW'] at HXy HAy HBy
          clear hW hW' HXc HAc HA3 HBc
          refine (add_h x y A1 B1 A2 B2 c1 d1 c2 d2 wy HAy.out.1.1 HAy.out.1.2 HAy.out.2.1 HAy.out.2.2 HOr.out HOm.out).mono ?_
          rintro e w5 ⟨p', q', htw, A5, B5, c5, d5, rfl, hA5, hB5, hb5, nA5, nB5⟩
          have HT := Lib.hid htw
          obtain ⟨v, hv⟩ : ∃ r, mAddO p' q' = r := ⟨_, rfl⟩
          obtain ⟨E2, hE2⟩ : ∃ E, mAddE p' q' = E := ⟨_, rfl⟩
          rw [hv] at hA5 hB5
          simp only [hvA, hv, hE2]
          have HRE := Lib.hid (And.intro hv hE2)
          have HS5 := Lib.hid (And.intro (nA5.ne HXy.out.1.lt) (And.intro (nA5.ne HXy.out.2.1.lt) (And.intro (nB5.ne HXy.out.1.lt) (nB5.ne HXy.out.2.1.lt))))
          have HN5 := Lib.hid (And.intro (nA5.mono HBy.out.size) (nB5.mono HBy.out.size))
          have HX5 := Lib.hid (And.intro (HXy.out.1.below hb5) (HXy.out.2.1.below hb5))
          have HB5 := Lib.hid (HBy.out.trans (hb5.mono HBy.out.size))
          have HA5 := Lib.hid (And.intro hA5 hB5)
          clear hv hE2 hA5 hB5 hb5 nA5 nB5 htw HXy HAy HBy
          obtain ⟨x0, x1, x2, x3, x4, x5, x6, x7⟩ := HX5.out.2.cells
          obtain ⟨e0, e1, e2, e3, e4, e5, e6, e7⟩ := HX5.out.2.frozen
          have l1 := HX5.out.2.lt
          by_cases hok : E2 = 0
          · skip
            subst hok
            go_wp2_with fail
            clear x0 x1 x2 x3 x4 x5 x6 x7 e0 e1 e2 e3 e4 e5 e6 e7 l1
            have HAdd := Lib.hid (HT.out.add HRE.out.2)
            rw [HRE.out.1] at HAdd
            have HRn := Lib.hid (show RisRel w g0 g1 h0 rest (k + 1) (set8 w5 g1 (.int .i64 v.k) (.int .i64 v.s) (.int .i64 v.z) (.int .u64 v.zc) (.int .u64 v.ct) (.int .i64 v.sm) (.slice A5 v.P.length c5) (.slice B5 v.Q.length d5)) from ⟨v, y, A5, B5, c5, d5, ⟨HX5.out.1.off8 (by have := HG1.out; omega) _ _ _ _ _ _ _ _, HX5.out.2.put8 _ _ _ _ _ _ _ _⟩, ⟨HA5.out.1.set8 HS5.out.2.1 _ _ _ _ _ _ _ _, HA5.out.2.set8 HS5.out.2.2.2 _ _ _ _ _ _ _ _⟩, HN5.out, ⟨.inr fun a ha => ⟨HS5.out.1 a ha, HS5.out.2.1 a ha⟩, .inr fun a ha => ⟨HS5.out.2.2.1 a ha, HS5.out.2.2.2 a ha⟩⟩, HAdd.out.ok, ⟨HYk.out, fun o E hh => HSr.out o E (by rw [HD.out]; exact .step HMore.out HT.out HRE.out.2 (by rw [HRE.out.1]; exact hh))⟩, below_set8 HB5.out (by have := HG1.out; have := HG0.out; omega) _ _ _ _ _ _ _ _⟩)
            generalize hW : ((((((((w5.setCell ⟨g1, 0, none⟩ (.int .i64 v.k)).setCell ⟨g1, 1, none⟩ (.int .i64 v.s)).setCell ⟨g1, 2, none⟩ (.int .i64 v.z)).setCell ⟨g1, 3, none⟩ (.int .u64 v.zc)).setCell ⟨g1, 4, none⟩ (.int .u64 v.ct)).setCell ⟨g1, 5, none⟩ (.int .i64 v.sm)).setCell ⟨g1, 6, none⟩ (.slice A5 v.P.length c5)).setCell ⟨g1, 7, none⟩ (.slice B5 v.Q.length d5)) = w6
            have hW' : set8 w5 g1 (.int .i64 v.k) (.int .i64 v.s) (.int .i64 v.z) (.int .u64 v.zc) (.int .u64 v.ct) (.int .i64 v.sm) (.slice A5 v.P.length c5) (.slice B5 v.Q.length d5) = w6 := hW
            rw [hW'] at HRn
            clear hW hW'
            go_roundw
            case rel => exact ⟨k + 1, by omega, by go_num, HRn⟩
            case measure => simp [intOf]; omega
          · skip
            have hok1 : (E2 != 0) = true := by simpa using hok
            have HNE := Lib.hid hok
            clear hok
            have ne1 : ¬ g0 = g1 := by have := HG1.out; omega
            have en1 : ¬ g1 = g0 := by have := HG1.out; omega
            have HV5 := Lib.hid (HX5.out.1.off8 (by have := HG1.out; omega : g0 ≠ g1) (.int .i64 v.k) (.int .i64 v.s) (.int .i64 v.z) (.int .u64 v.zc) (.int .u64 v.ct) (.int .i64 v.sm) (.slice A5 v.P.length c5) (.slice B5 v.Q.length d5))
            have HB6 := Lib.hid (below_set8 (g := g1) HB5.out (by have := HG1.out; have := HG0.out; omega) (.int .i64 v.k) (.int .i64 v.s) (.int .i64 v.z) (.int .u64 v.zc) (.int .u64 v.ct) (.int .i64 v.sm) (.slice A5 v.P.length c5) (.slice B5 v.Q.length d5))
            obtain ⟨z0, z1, z2, z3, z4, z5, z6, z7⟩ := HX5.out.1.cells
            obtain ⟨f0, f1, f2, f3, f4, f5, f6, f7⟩ := HX5.out.1.frozen
            have l0 := HX5.out.1.lt
            go_wp2_with fail
            clear x0 x1 x2 x3 x4 x5 x6 x7 e0 e1 e2 e3 e4 e5 e6 e7 l1 z0 z1 z2 z3 z4 z5 z6 z7 f0 f1 f2 f3 f4 f5 f6 f7 l0 ne1 en1
            have HE := Lib.hid (show ∃ o E', RiseR (emptyV h0.s) h0 rest o E' ∧ RetH w o E' (.returned (.tuple #[.agg #[.int .i64 0, .int .i64 0, .int .i64 0, .int .u64 0, .int .u64 0, .int .i64 0, .slice none 0 0, .slice none 0 0], .int .i64 E2])) (set8 (set8 w5 g1 (.int .i64 v.k) (.int .i64 v.s) (.int .i64 v.z) (.int .u64 v.zc) (.int .u64 v.ct) (.int .i64 v.sm) (.slice A5 v.P.length c5) (.slice B5 v.Q.length d5)) g0 (.int .i64 0) (.int .i64 0) (.int .i64 0) (.int .u64 0) (.int .u64 0) (.int .i64 0) (.slice none 0 0) (.slice none 0 0)) from ⟨zeroV, E2, HSr.out _ _ (by rw [HD.out, ← HRE.out.2]; exact .over HMore.out HT.out (by rw [HRE.out.2]; exact HNE.out)), RetH.zero (below_set8 HB6.out (by have := HG0.out; omega) _ _ _ _ _ _ _ _)⟩)
            have HF := Lib.hid (HV5.out.put8 (.int .i64 0) (.int .i64 0) (.int .i64 0) (.int .u64 0) (.int .u64 0) (.int .i64 0) (.slice none 0 0) (.slice none 0 0))
            generalize hW : ((((((((((((((((w5.setCell ⟨g1, 0, none⟩ (.int .i64 v.k)).setCell ⟨g1, 1, none⟩ (.int .i64 v.s)).setCell ⟨g1, 2, none⟩ (.int .i64 v.z)).setCell ⟨g1, 3, none⟩ (.int .u64 v.zc)).setCell ⟨g1, 4, none⟩ (.int .u64 v.ct)).setCell ⟨g1, 5, none⟩ (.int .i64 v.sm)).setCell ⟨g1, 6, none⟩ (.slice A5 v.P.length c5)).setCell ⟨g1, 7, none⟩ (.slice B5 v.Q.length d5)).setCell ⟨g0, 0, none⟩ (.int .i64 0)).setCell ⟨g0, 1, none⟩ (.int .i64 0)).setCell ⟨g0, 2, none⟩ (.int .i64 0)).setCell ⟨g0, 3, none⟩ (.int .u64 0)).setCell ⟨g0, 4, none⟩ (.int .u64 0)).setCell ⟨g0, 5, none⟩ (.int .i64 0)).setCell ⟨g0, 6, none⟩ (.slice none 0 0)).setCell ⟨g0, 7, none⟩ (.slice none 0 0)) = w9
            have hW' : set8 (set8 w5 g1 (.int .i64 v.k) (.int .i64 v.s) (.int .i64 v.z) (.int .u64 v.zc) (.int .u64 v.ct) (.int .i64 v.sm) (.slice A5 v.P.length c5) (.slice B5 v.Q.length d5)) g0 (.int .i64 0) (.int .i64 0) (.int .i64 0) (.int .u64 0) (.int .u64 0) (.int .i64 0) (.slice none 0 0) (.slice none 0 0) = w9 := hW
            rw [hW'] at HE HF
            obtain ⟨z0, z1, z2, z3, z4, z5, z6, z7⟩ := HF.out.cells
            exact bodyPost_ret (v := .tuple #[.agg #[.int .i64 0, .int .i64 0, .int .i64 0, .int .u64 0, .int .u64 0, .int .i64 0, .slice none 0 0, .slice none 0 0], .int .i64 E2]) (by simp [results, Try.results20, go_sem, z0, z1, z2, z3, z4, z5, z6, z7]) rfl HE.out
        · have he1 : (E == 21) = false := by simpa using h21
          by_cases h00 : E = 0
          · subst h00
            have HMore := Lib.hid (show MoreR y p r 0 from by rw [← HrE.out.1]; exact .less HTw.out HrE.out.2)
            have HOm := Lib.hid (show Ok r from by rw [← HrE.out.1]; exact (HTw.out.sub HrE.out.2).ok)
            clear h21
            obtain ⟨x0, x1, x2, x3, x4, x5, x6, x7⟩ := HXc.out.2.1.cells
            obtain ⟨z0, z1, z2, z3, z4, z5, z6, z7⟩ := HXc.out.2.2.2.cells
            have l1 := HXc.out.2.1.lt
            have l3 := HXc.out.2.2.2.lt
            go_wp2_with fail
            clear x0 x1 x2 x3 x4 x5 x6 x7 z0 z1 z2 z3 z4 z5 z6 z7 l1 l3
            have HXy := Lib.hid (And.intro HXc.out.1 (And.intro HXc.out.2.1 HXc.out.2.2.2))
            have HAy := Lib.hid (And.intro HAc.out.1 HA3.out)
            have HBy := HBc
            clear HXc HAc HA3 HBc
            obtain ⟨wy, hwy⟩ : ∃ W, W = wx := ⟨_, rfl⟩
            subst hwy
            refine (add_h x r A1 B1 A3 B3 c1 d1 c3 d3 wy HAy.out.1.1 HAy.out.1.2 HAy.out.2.1 HAy.out.2.2 HOr.out HOm.out).mono ?_
            rintro e w5 ⟨p', q', htw, A5, B5, c5, d5, rfl, hA5, hB5, hb5, nA5, nB5⟩
            have HT := Lib.hid htw
            obtain ⟨v, hv⟩ : ∃ r, mAddO p' q' = r := ⟨_, rfl⟩
            obtain ⟨E2, hE2⟩ : ∃ E, mAddE p' q' = E := ⟨_, rfl⟩
            rw [hv] at hA5 hB5
            simp only [hvA, hv, hE2]
            have HRE := Lib.hid (And.intro hv hE2)
            have HS5 := Lib.hid (And.intro (nA5.ne HXy.out.1.lt) (And.intro (nA5.ne HXy.out.2.1.lt) (And.intro (nB5.ne HXy.out.1.lt) (nB5.ne HXy.out.2.1.lt))))
            have HN5 := Lib.hid (And.intro (nA5.mono HBy.out.size) (nB5.mono HBy.out.size))
            have HX5 := Lib.hid (And.intro (HXy.out.1.below hb5) (HXy.out.2.1.below hb5))
            have HB5 := Lib.hid (HBy.out.trans (hb5.mono HBy.out.size))
            have HA5 := Lib.hid (And.intro hA5 hB5)
            clear hv hE2 hA5 hB5 hb5 nA5 nB5 htw HXy HAy HBy
            obtain ⟨x0, x1, x2, x3, x4, x5, x6, x7⟩ := HX5.out.2.cells
            obtain ⟨e0, e1, e2, e3, e4, e5, e6, e7⟩ := HX5.out.2.frozen
            have l1 := HX5.out.2.lt
            by_cases hok : E2 = 0
            · skip
              subst hok
              go_wp2_with fail
              clear x0 x1 x2 x3 x4 x5 x6 x7 e0 e1 e2 e3 e4 e5 e6 e7 l1
              have HAdd := Lib.hid (HT.out.add HRE.out.2)
              rw [HRE.out.1] at HAdd
              have HRn := Lib.hid (show RisRel w g0 g1 h0 rest (k + 1) (set8 w5 g1 (.int .i64 v.k) (.int .i64 v.s) (.int .i64 v.z) (.int .u64 v.zc) (.int .u64 v.ct) (.int .i64 v.sm) (.slice A5 v.P.length c5) (.slice B5 v.Q.length d5)) from ⟨v, y, A5, B5, c5, d5, ⟨HX5.out.1.off8 (by have := HG1.out; omega) _ _ _ _ _ _ _ _, HX5.out.2.put8 _ _ _ _ _ _ _ _⟩, ⟨HA5.out.1.set8 HS5.out.2.1 _ _ _ _ _ _ _ _, HA5.out.2.set8 HS5.out.2.2.2 _ _ _ _ _ _ _ _⟩, HN5.out, ⟨.inr fun a ha => ⟨HS5.out.1 a ha, HS5.out.2.1 a ha⟩, .inr fun a ha => ⟨HS5.out.2.2.1 a ha, HS5.out.2.2.2 a ha⟩⟩, HAdd.out.ok, ⟨HYk.out, fun o E hh => HSr.out o E (by rw [HD.out]; exact .step HMore.out HT.out HRE.out.2 (by rw [HRE.out.1]; exact hh))⟩, below_set8 HB5.out (by have := HG1.out; have := HG0.out; omega) _ _ _ _ _ _ _ _⟩)
              generalize hW : ((((((((w5.setCell ⟨g1, 0, none⟩ (.int .i64 v.k)).setCell ⟨g1, 1, none⟩ (.int .i64 v.s)).setCell ⟨g1, 2, none⟩ (.int .i64 v.z)).setCell ⟨g1, 3, none⟩ (.int .u64 v.zc)).setCell ⟨g1, 4, none⟩ (.int .u64 v.ct)).setCell ⟨g1, 5, none⟩ (.int .i64 v.sm)).setCell ⟨g1, 6, none⟩ (.slice A5 v.P.length c5)).setCell ⟨g1, 7, none⟩ (.slice B5 v.Q.length d5)) = w6
              have hW' : set8 w5 g1 (.int .i64 v.k) (.int .i64 v.s) (.int .i64 v.z) (.int .u64 v.zc) (.int .u64 v.ct) (.int .i64 v.sm) (.slice A5 v.P.length c5) (.slice B5 v.Q.length d5) = w6 := hW
              rw [hW'] at HRn
              clear hW hW'
              go_roundw
              case rel => exact ⟨k + 1, by omega, by go_num, HRn⟩
              case measure => simp [intOf]; omega
            · skip
              have hok1 : (E2 != 0) = true := by simpa using hok
              have HNE := Lib.hid hok
              clear hok
              have ne1 : ¬ g0 = g1 := by have := HG1.out; omega
              have en1 : ¬ g1 = g0 := by have := HG1.out; omega
              have HV5 := Lib.hid (HX5.out.1.off8 (by have := HG1.out; omega : g0 ≠ g1) (.int .i64 v.k) (.int .i64 v.s) (.int .i64 v.z) (.int .u64 v.zc) (.int .u64 v.ct) (.int .i64 v.sm) (.slice A5 v.P.length c5) (.slice B5 v.Q.length d5))
              have HB6 := Lib.hid (below_set8 (g := g1) HB5.out (by have := HG1.out; have := HG0.out; omega) (.int .i64 v.k) (.int .i64 v.s) (.int .i64 v.z) (.int .u64 v.zc) (.int .u64 v.ct) (.int .i64 v.sm) (.slice A5 v.P.length c5) (.slice B5 v.Q.length d5))
              obtain ⟨z0, z1, z2, z3, z4, z5, z6, z7⟩ := HX5.out.1.cells
              obtain ⟨f0, f1, f2, f3, f4, f5, f6, f7⟩ := HX5.out.1.frozen
              have l0 := HX5.out.1.lt
              go_wp2_with fail
              clear x0 x1 x2 x3 x4 x5 x6 x7 e0 e1 e2 e3 e4 e5 e6 e7 l1 z0 z1 z2 z3 z4 z5 z6 z7 f0 f1 f2 f3 f4 f5 f6 f7 l0 ne1 en1
              have HE := Lib.hid (show ∃ o E', RiseR (emptyV h0.s) h0 rest o E' ∧ RetH w o E' (.returned (.tuple #[.agg #[.int .i64 0, .int .i64 0, .int .i64 0, .int .u64 0, .int .u64 0, .int .i64 0, .slice none 0 0, .slice none 0 0], .int .i64 E2])) (set8 (set8 w5 g1 (.int .i64 v.k) (.int .i64 v.s) (.int .i64 v.z) (.int .u64 v.zc) (.int .u64 v.ct) (.int .i64 v.sm) (.slice A5 v.P.length c5) (.slice B5 v.Q.length d5)) g0 (.int .i64 0) (.int .i64 0) (.int .i64 0) (.int .u64 0) (.int .u64 0) (.int .i64 0) (.slice none 0 0) (.slice none 0 0)) from ⟨zeroV, E2, HSr.out _ _ (by rw [HD.out, ← HRE.out.2]; exact .over HMore.out HT.out (by rw [HRE.out.2]; exact HNE.out)), RetH.zero (below_set8 HB6.out (by have := HG0.out; omega) _ _ _ _ _ _ _ _)⟩)
              have HF := Lib.hid (HV5.out.put8 (.int .i64 0) (.int .i64 0) (.int .i64 0) (.int .u64 0) (.int .u64 0) (.int .i64 0) (.slice none 0 0) (.slice none 0 0))
              generalize hW : ((((((((((((((((w5.setCell ⟨g1, 0, none⟩ (.int .i64 v.k)).setCell ⟨g1, 1, none⟩ (.int .i64 v.s)).setCell ⟨g1, 2, none⟩ (.int .i64 v.z)).setCell ⟨g1, 3, none⟩ (.int .u64 v.zc)).setCell ⟨g1, 4, none⟩ (.int .u64 v.ct)).setCell ⟨g1, 5, none⟩ (.int .i64 v.sm)).setCell ⟨g1, 6, none⟩ (.slice A5 v.P.length c5)).setCell ⟨g1, 7, none⟩ (.slice B5 v.Q.length d5)).setCell ⟨g0, 0, none⟩ (.int .i64 0)).setCell ⟨g0, 1, none⟩ (.int .i64 0)).setCell ⟨g0, 2, none⟩ (.int .i64 0)).setCell ⟨g0, 3, none⟩ (.int .u64 0)).setCell ⟨g0, 4, none⟩ (.int .u64 0)).setCell ⟨g0, 5, none⟩ (.int .i64 0)).setCell ⟨g0, 6, none⟩ (.slice none 0 0)).setCell ⟨g0, 7, none⟩ (.slice none 0 0)) = w9
              have hW' : set8 (set8 w5 g1 (.int .i64 v.k) (.int .i64 v.s) (.int .i64 v.z) (.int .u64 v.zc) (.int .u64 v.ct) (.int .i64 v.sm) (.slice A5 v.P.length c5) (.slice B5 v.Q.length d5)) g0 (.int .i64 0) (.int .i64 0) (.int .i64 0) (.int .u64 0) (.int .u64 0) (.int .i64 0) (.slice none 0 0) (.slice none 0 0) = w9 := hW
              rw [hW'] at HE HF
              obtain ⟨z0, z1, z2, z3, z4, z5, z6, z7⟩ := HF.out.cells
              exact bodyPost_ret (v := .tuple #[.agg #[.int .i64 0, .int .i64 0, .int .i64 0, .int .u64 0, .int .u64 0, .int .i64 0, .slice none 0 0, .slice none 0 0], .int .i64 E2]) (by simp [results, Try.results20, go_sem, z0, z1, z2, z3, z4, z5, z6, z7]) rfl HE.out
          · have he2 : (E != 0) = true := by simpa using h00
            have HNE := Lib.hid (And.intro h21 h00)
            clear h21 h00
            have HE := Lib.hid (show ∃ o E', RiseR (emptyV h0.s) h0 rest o E' ∧ RetH w o E' (.returned (.tuple #[.agg #[.int .i64 0, .int .i64 0, .int .i64 0, .int .u64 0, .int .u64 0, .int .i64 0, .slice none 0 0, .slice none 0 0], .int .i64 E])) (set8 wx g0 (.int .i64 0) (.int .i64 0) (.int .i64 0) (.int .u64 0) (.int .u64 0) (.int .i64 0) (.slice none 0 0) (.slice none 0 0)) from ⟨zeroV, E, HSr.out _ _ (by rw [HD.out, ← HrE.out.2]; exact .bad (.bad HTw.out (by rw [HrE.out.2]; exact HNE.out.2) (by rw [HrE.out.2]; exact HNE.out.1)) (by rw [HrE.out.2]; exact HNE.out.2)), RetH.zero (below_set8 HBc.out (by have := HG0.out; omega) _ _ _ _ _ _ _ _)⟩)
            have HF := Lib.hid (HXc.out.1.put8 (.int .i64 0) (.int .i64 0) (.int .i64 0) (.int .u64 0) (.int .u64 0) (.int .i64 0) (.slice none 0 0) (.slice none 0 0))
            obtain ⟨z0, z1, z2, z3, z4, z5, z6, z7⟩ := HXc.out.1.cells
            obtain ⟨f0, f1, f2, f3, f4, f5, f6, f7⟩ := HXc.out.1.frozen
            have l0 := HXc.out.1.lt
            go_wp2_with fail
            clear z0 z1 z2 z3 z4 z5 z6 z7 f0 f1 f2 f3 f4 f5 f6 f7 l0
            generalize hW : ((((((((wx.setCell ⟨g0, 0, none⟩ (.int .i64 0)).setCell ⟨g0, 1, none⟩ (.int .i64 0)).setCell ⟨g0, 2, none⟩ (.int .i64 0)).setCell ⟨g0, 3, none⟩ (.int .u64 0)).setCell ⟨g0, 4, none⟩ (.int .u64 0)).setCell ⟨g0, 5, none⟩ (.int .i64 0)).setCell ⟨g0, 6, none⟩ (.slice none 0 0)).setCell ⟨g0, 7, none⟩ (.slice none 0 0)) = w9
            have hW' : (set8 wx (g0) (.int .i64 0) (.int .i64 0) (.int .i64 0) (.int .u64 0) (.int .u64 0) (.int .i64 0) (.slice none 0 0) (.slice none 0 0)) = w9 := hW
            rw [hW'] at HE HF
            obtain ⟨z0, z1, z2, z3, z4, z5, z6, z7⟩ := HF.out.cells
            exact bodyPost_ret (v := .tuple #[.agg #[.int .i64 0, .int .i64 0, .int .i64 0, .int .u64 0, .int .u64 0, .int .i64 0, .slice none 0 0, .slice none 0 0], .int .i64 E]) (by simp [results, Try.results20, go_sem, z0, z1, z2, z3, z4, z5, z6, z7]) rfl HE.out
    · obtain rfl : k = M := by omega
      have hki : ¬ ((k : Int) < (k : Int)) := by omega
      have HE := Lib.hid (show ∃ o E', RiseR (emptyV h0.s) h0 rest o E' ∧ RetH w o E' (.returned (.tuple #[.agg #[.int .i64 x.k, .int .i64 x.s, .int .i64 x.z, .int .u64 x.zc, .int .u64 x.ct, .int .i64 x.sm, .slice A1 x.P.length c1, .slice B1 x.Q.length d1], .int .i64 0])) (set8 wr g0 (.int .i64 x.k) (.int .i64 x.s) (.int .i64 x.z) (.int .u64 x.zc) (.int .u64 x.ct) (.int .i64 x.sm) (.slice A1 x.P.length c1) (.slice B1 x.Q.length d1)) from ⟨x, 0, HSr.out _ _ (by rw [List.drop_eq_nil_of_le (by have := HM.out; omega)]; exact .done x p), A1, B1, c1, d1, rfl, HAr.out.1.set8n (or_l HEr.out.1) _ _ _ _ _ _ _ _, HAr.out.2.set8n (or_l HEr.out.2) _ _ _ _ _ _ _ _, below_set8 HBr.out (by have := HG0.out; omega) _ _ _ _ _ _ _ _, HNr.out.1, HNr.out.2⟩)
      have HF := Lib.hid (HXr.out.1.put8 (.int .i64 x.k) (.int .i64 x.s) (.int .i64 x.z) (.int .u64 x.zc) (.int .u64 x.ct) (.int .i64 x.sm) (.slice A1 x.P.length c1) (.slice B1 x.Q.length d1))
      obtain ⟨x0, x1, x2, x3, x4, x5, x6, x7⟩ := HXr.out.2.cells
      obtain ⟨z0, z1, z2, z3, z4, z5, z6, z7⟩ := HXr.out.1.cells
      obtain ⟨f0, f1, f2, f3, f4, f5, f6, f7⟩ := HXr.out.1.frozen
      have l0 := HXr.out.1.lt
      have l1 := HXr.out.2.lt
      go_wp2_with fail
      clear x0 x1 x2 x3 x4 x5 x6 x7 z0 z1 z2 z3 z4 z5 z6 z7 f0 f1 f2 f3 f4 f5 f6 f7 l0 l1
      generalize hW : ((((((((wr.setCell ⟨g0, 0, none⟩ (.int .i64 x.k)).setCell ⟨g0, 1, none⟩ (.int .i64 x.s)).setCell ⟨g0, 2, none⟩ (.int .i64 x.z)).setCell ⟨g0, 3, none⟩ (.int .u64 x.zc)).setCell ⟨g0, 4, none⟩ (.int .u64 x.ct)).setCell ⟨g0, 5, none⟩ (.int .i64 x.sm)).setCell ⟨g0, 6, none⟩ (.slice A1 x.P.length c1)).setCell ⟨g0, 7, none⟩ (.slice B1 x.Q.length d1)) = w9
      have hW' : (set8 wr (g0) (.int .i64 x.k) (.int .i64 x.s) (.int .i64 x.z) (.int .u64 x.zc) (.int .u64 x.ct) (.int .i64 x.sm) (.slice A1 x.P.length c1) (.slice B1 x.Q.length d1)) = w9 := hW
      rw [hW'] at HE HF
      obtain ⟨z0, z1, z2, z3, z4, z5, z6, z7⟩ := HF.out.cells
      exact bodyPost_ret (v := .tuple #[.agg #[.int .i64 x.k, .int .i64 x.s, .int .i64 x.z, .int .u64 x.zc, .int .u64 x.ct, .int .i64 x.sm, .slice A1 x.P.length c1, .slice B1 x.Q.length d1], .int .i64 0]) (by simp [results, Try.results20, go_sem, z0, z1, z2, z3, z4, z5, z6, z7]) rfl HE.out
end Go.Proofs.Ytbibhjcmdehdbaa
