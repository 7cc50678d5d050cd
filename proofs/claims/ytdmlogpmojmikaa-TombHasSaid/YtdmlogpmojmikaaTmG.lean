/- Sets together: And; a set but for a range: Without. -/
import Derived.Test.YtdmlogpmojmikaaTmF
namespace Go.Proofs.Ytdmlogpmojmikaa.Tm
open Go.RowKit Go.Sort
set_option linter.unusedVariables false

theorem grows (w : World) (o : Obj) : Below w.heap.size w (w.alloc o) := (Below.refl _ _).alloc (Nat.le_refl _) _
theorem two_rows {w W : World} {g : Nat} {u v : Value} {t : TypeId} (hg : w.heap.size = g) (hW : w.alloc (.cells #[u, v] t) = W) : W.cell? ⟨g, 0, none⟩ = some u ∧ W.cell? ⟨g, 1, none⟩ = some v := by
  subst hg hW
  have h := heap_alloc_new w (.cells #[u, v] t)
  exact ⟨by rw [cell_of_row _ _ _ _ _ _ h]; rfl, by rw [cell_of_row _ _ _ _ _ _ h]; rfl⟩
/-- a store into a box that holds no number leaves ranges -/
theorem cl_box {w : World} {A : Option Addr} {Z : List Rg} {g : Nat} {t : TypeId} {v : Value} (h : Cl w A (twoC .i64 Z)) (hx : w.heap[g]? = some (.cells #[v] t (0, 0))) (hv : ∀ n, v ≠ .int .i64 n) (u : Value) : Cl (w.setCell ⟨g, 0, none⟩ u) A (twoC .i64 Z) := by
  by_cases hZ : Z = []
  · subst hZ; exact Cl.nil _ _
  · have h0 : 0 < Z.length := List.length_pos_iff.2 hZ
    obtain ⟨b, off, rfl, hc⟩ := h.twos h0
    refine h.set (p := ⟨g, 0, none⟩) (fun a ha => ?_) u
    injection ha with ha
    subst ha
    intro e
    have e' : b = g := e
    obtain ⟨q0, _⟩ := hc 0 Z[0] (List.getElem?_eq_getElem h0)
    rw [e', cell_of_row _ _ _ _ _ _ hx] at q0
    by_cases ho : off + 0 * 2 = 0
    · rw [ho] at q0
      simp at q0
      exact hv _ q0
    · rw [Array.getElem?_eq_none (by simp; omega)] at q0
      cases q0
set_option maxHeartbeats 1000000 in
set_option maxRecDepth 100000 in
theorem andS_any (v u : Value) (X Y : List Rg) (w : World) (h : St w v X) (k : St w u Y) (hl : X.length ≤ 1000) (hm : Y.length ≤ 1000) :
    Calls Try.prog 9 #[v, u] w (SetP w (X ++ Y)) := by
  obtain ⟨A, c, rfl, h1, h2⟩ := h
  obtain ⟨B, d, rfl, k1, k2⟩ := k
  obtain ⟨n, hn⟩ : ∃ n, X.length = n := ⟨_, rfl⟩
  obtain ⟨m, hm'⟩ : ∃ m, Y.length = m := ⟨_, rfl⟩
  obtain ⟨W1, hW1⟩ : ∃ W1, w.alloc (.cells #[.slice A n c] 28) = W1 := ⟨_, rfl⟩
  obtain ⟨W2, hW2⟩ : ∃ W2, W1.alloc (.cells #[.slice B m d] 28) = W2 := ⟨_, rfl⟩
  obtain ⟨W3, hW3⟩ : ∃ W3, W2.alloc (.cells #[.slice none 0 0] 28) = W3 := ⟨_, rfl⟩
  obtain ⟨W4, hW4⟩ : ∃ W4, W3.alloc (.cells #[.slice A n c, .slice B m d] 26) = W4 := ⟨_, rfl⟩
  obtain ⟨g1, hg1⟩ : ∃ g, w.heap.size = g := ⟨_, rfl⟩
  have z1 : W1.heap.size = g1 + 1 := by rw [← hW1, ← hg1]; simp
  have z2 : W2.heap.size = g1 + 2 := by rw [← hW2]; simp [z1]
  have z3 : W3.heap.size = g1 + 3 := by rw [← hW3]; simp [z2]
  have z4 : W4.heap.size = g1 + 4 := by rw [← hW4]; simp [z3]
  have b1 : Below w.heap.size w W1 := hW1 ▸ grows _ _
  have b2 := b1.trans ((hW2 ▸ grows W1 _ : Below W1.heap.size W1 W2).mono b1.size)
  have b3 := b2.trans ((hW3 ▸ grows W2 _ : Below W2.heap.size W2 W3).mono b2.size)
  have b34 : Below W3.heap.size W3 W4 := hW4 ▸ grows W3 _
  have b4 := b3.trans (b34.mono b3.size)
  obtain ⟨r0, r1⟩ := two_rows z3 hW4
  have hx3 : W4.heap[g1 + 2]? = some (.cells #[.slice none 0 0] 28 (0, 0)) := (b34.block (g1 + 2) (by omega)).trans (z2 ▸ hW3 ▸ heap_alloc_new W2 _)
  have y0 : W3.cell? ⟨g1, 0, none⟩ = some (.slice A n c) := (box1 (((hW3 ▸ grows W2 _ : Below W2.heap.size W2 W3).block g1 (by omega)).trans (((hW2 ▸ grows W1 _ : Below W1.heap.size W1 W2).block g1 (by omega)).trans (hg1 ▸ hW1 ▸ heap_alloc_new w _)))).1
  have y1 : W3.cell? ⟨g1 + 1, 0, none⟩ = some (.slice B m d) := (box1 (((hW3 ▸ grows W2 _ : Below W2.heap.size W2 W3).block (g1 + 1) (by omega)).trans (z1 ▸ hW2 ▸ heap_alloc_new W1 _))).1
  have HX3 := Lib.hid hx3
  have B4 := Lib.hid b4
  have HC := Lib.hid (concat_any (g1 + 3) A B n m c d X Y W4 r0 r1 hn.symm hm'.symm (h2.below b4) (k2.below b4) h1 k1 hl hm)
  obtain ⟨L, hL⟩ : ∃ L, X ++ Y = L := ⟨_, rfl⟩
  have hLl : L.length ≤ 5000 := by rw [← hL, List.length_append]; omega
  rw [hL] at HC ⊢
  have HLL := Lib.hid hLl
  have Z4 := Lib.hid z4
  have G1 := Lib.hid hg1
  rw [hn, hm']
  clear h1 h2 k1 k2 hn hm' hx3 hL hLl hl hm b1 b2 b3 b4 b34 r0 r1
  go_enter Try.func9, Try.ntmps9
  go_wp2_with fail
  clear hW1 hW2 hW3 hW4 y0 y1
  refine HC.out.mono ?_
  rintro e w5 ⟨A5, c5, rfl, ho5, hb5⟩
  obtain ⟨N, hN⟩ : ∃ N, L.length = N := ⟨_, rfl⟩
  have HO5 := Lib.hid (of_any A5 N c5 L w5 hN.symm (own_cl ho5) HLL.out)
  have B5 := Lib.hid (B4.out.trans (hb5.mono B4.out.size))
  have X5 := Lib.hid ((hb5.block (g1 + 2) (by have := Z4.out; omega)).trans HX3.out)
  rw [hN]
  clear ho5 hb5 hN
  go_wp2_with fail
  refine HO5.out.mono ?_
  rintro e w6 ⟨v6, Z, rfl, hz, hzl, ⟨A6, c6, rfl, h61, h62⟩, hb6⟩
  have x6 := (hb6.block (g1 + 2) (Array.getElem?_eq_some_iff.1 X5.out).1).trans X5.out
  obtain ⟨M, hM⟩ : ∃ M, Z.length = M := ⟨_, rfl⟩
  have HE := Lib.hid (show SetP w L (.returned (.agg #[.slice A6 M c6])) (w6.setCell ⟨g1 + 2, 0, none⟩ (.slice A6 M c6)) from
    ⟨_, Z, rfl, hz, hzl, ⟨A6, c6, by rw [hM], h61, cl_box h62 x6 (by intro n e; cases e) _⟩, (B5.out.trans (hb6.mono B5.out.size)).setCell (by have := G1.out; simp; omega) _⟩)
  obtain ⟨y0, yf⟩ := box1 x6
  rw [hM]
  clear hz hzl h61 h62 hb6 x6 hM
  go_wp2_with fail
  exact bodyPost_ret (v := .agg #[.slice A6 M c6]) (by simp [results, Try.results9, go_sem, y0]) rfl HE.out
/-- but for a range that may not be: as it is -/
theorem without_bad (v : Value) (X : List Rg) (a b : Int) (w : World) (h : St w v X) (hr : ¬ RightP (a, b)) :
    Calls Try.prog 10 #[v, .agg #[.int .i64 a, .int .i64 b]] w fun e w' => e = .returned v ∧ Below w.heap.size w w' := by
  obtain ⟨A, c, rfl, h1, h2⟩ := h
  obtain ⟨n, hn⟩ : ∃ n, X.length = n := ⟨_, rfl⟩
  obtain ⟨W1, hW1⟩ : ∃ W1, w.alloc (.cells #[.slice A n c] 28) = W1 := ⟨_, rfl⟩
  obtain ⟨W2, hW2⟩ : ∃ W2, W1.alloc (.cells #[.int .i64 a, .int .i64 b] 33) = W2 := ⟨_, rfl⟩
  obtain ⟨W3, hW3⟩ : ∃ W3, W2.alloc (.cells #[.slice none 0 0] 28) = W3 := ⟨_, rfl⟩
  obtain ⟨g1, hg1⟩ : ∃ g, w.heap.size = g := ⟨_, rfl⟩
  have z1 : W1.heap.size = g1 + 1 := by rw [← hW1, ← hg1]; simp
  have z2 : W2.heap.size = g1 + 2 := by rw [← hW2]; simp [z1]
  have z3 : W3.heap.size = g1 + 3 := by rw [← hW3]; simp [z2]
  have b1 : Below w.heap.size w W1 := hW1 ▸ grows _ _
  have b2 := b1.trans ((hW2 ▸ grows W1 _ : Below W1.heap.size W1 W2).mono b1.size)
  have b3 := b2.trans ((hW3 ▸ grows W2 _ : Below W2.heap.size W2 W3).mono b2.size)
  have x1 : W3.heap[g1]? = some (.cells #[.slice A n c] 28 (0, 0)) := (((hW3 ▸ grows W2 _ : Below W2.heap.size W2 W3).block g1 (by omega)).trans (((hW2 ▸ grows W1 _ : Below W1.heap.size W1 W2).block g1 (by omega)).trans (hg1 ▸ hW1 ▸ heap_alloc_new w _)))
  have x2 : W3.heap[g1 + 1]? = some (.cells #[.int .i64 a, .int .i64 b] 33 (0, 0)) := (((hW3 ▸ grows W2 _ : Below W2.heap.size W2 W3).block (g1 + 1) (by omega)).trans (z1 ▸ hW2 ▸ heap_alloc_new W1 _))
  have x3 : W3.heap[g1 + 2]? = some (.cells #[.slice none 0 0] 28 (0, 0)) := z2 ▸ hW3 ▸ heap_alloc_new W2 _
  obtain ⟨y0, y1, yf⟩ := box2 x2
  have HX := Lib.hid (And.intro x1 x3)
  have B3 := Lib.hid b3
  have HR := Lib.hid (show rightB (a, b) = false by unfold rightB; simp [hr])
  have Z3 := Lib.hid z3
  have G1 := Lib.hid hg1
  rw [hn]
  clear h1 h2 hn b1 b2 b3 x1 x2 x3 yf hr
  go_enter Try.func10, Try.ntmps10
  go_wp2_with fail
  clear hW1 hW2 hW3 y0 y1
  refine (right_any (a, b) W3).mono ?_
  rw [HR.out]
  rintro e w4 ⟨rfl, hb4⟩
  obtain ⟨u0, _⟩ := box1 ((hb4.block g1 (by have := Z3.out; omega)).trans HX.out.1)
  obtain ⟨u1, uf⟩ := box1 ((hb4.block (g1 + 2) (by have := Z3.out; omega)).trans HX.out.2)
  have HE := Lib.hid (show Below w.heap.size w (w4.setCell ⟨g1 + 2, 0, none⟩ (.slice A n c)) from (B3.out.trans (hb4.mono B3.out.size)).setCell (by have := G1.out; simp; omega) _)
  clear hb4
  go_wp2_with fail
  exact bodyPost_ret (v := .agg #[.slice A n c]) (by simp [results, Try.results10, go_sem, u1]) rfl ⟨rfl, HE.out⟩
end Go.Proofs.Ytdmlogpmojmikaa.Tm
