/- A set but for a range that may be: Without. -/
import Derived.Test.YtdmlogpmojmikaaTmG
namespace Go.Proofs.Ytdmlogpmojmikaa.Tm
open Go.RowKit Go.Sort
set_option linter.unusedVariables false

theorem cutL_snoc (r : Rg) (l : List Rg) (x : Rg) : cutL r (l ++ [x]) = cutL r l ++ cutE r x := by simp [cutL]
/-- a set but for a range is made -/
def LessP (w : World) (r : Rg) (X : List Rg) (e : Ending) (w' : World) : Prop := ∃ v Z, e = .returned v ∧ Can Z ∧ (∀ t, HasP Z t ↔ HasP X t ∧ ¬ InR r t) ∧ Z.length ≤ 2 * X.length ∧ St w' v Z ∧ Below w.heap.size w w'
set_option maxHeartbeats 2000000 in
set_option maxRecDepth 100000 in
theorem without_ok (v : Value) (X : List Rg) (a b : Int) (w : World) (h : St w v X) (hc : Can X) (hr : RightP (a, b)) (hl : X.length ≤ 1000) :
    Calls Try.prog 10 #[v, .agg #[.int .i64 a, .int .i64 b]] w (LessP w (a, b) X) := by
  obtain ⟨A, c, rfl, h1, h2⟩ := h
  obtain ⟨n, hn⟩ : ∃ n, X.length = n := ⟨_, rfl⟩
  obtain ⟨W1, hW1⟩ : ∃ W1, w.alloc (.cells #[.slice A n c] 28) = W1 := ⟨_, rfl⟩
  obtain ⟨W2, hW2⟩ : ∃ W2, W1.alloc (.cells #[.int .i64 a, .int .i64 b] 33) = W2 := ⟨_, rfl⟩
  obtain ⟨W3, hW3⟩ : ∃ W3, W2.alloc (.cells #[.slice none 0 0] 28) = W3 := ⟨_, rfl⟩
  obtain ⟨g1, hg1⟩ : ∃ g, w.heap.size = g := ⟨_, rfl⟩
  have z1 : W1.heap.size = g1 + 1 := by rw [← hW1, ← hg1]; simp
  have z2 : W2.heap.size = g1 + 2 := by rw [← hW2]; simp [z1]
  have z3 : W3.heap.size = g1 + 3 := by rw [← hW3]; simp [z2]
  have b1 : Below w.heap.size w W1 := hW1 ▸ grows _ _
  have b2 := b1.trans ((hW2 ▸ grows W1 _ : Below W1.heap.size W1 W2).mono b1.size)
  have b3 := b2.trans ((hW3 ▸ grows W2 _ : Below W2.heap.size W2 W3).mono b2.size)
  have x1 : W3.heap[g1]? = some (.cells #[.slice A n c] 28 (0, 0)) := (((hW3 ▸ grows W2 _ : Below W2.heap.size W2 W3).block g1 (by omega)).trans (((hW2 ▸ grows W1 _ : Below W1.heap.size W1 W2).block g1 (by omega)).trans (hg1 ▸ hW1 ▸ heap_alloc_new w _)))
  have x2 : W3.heap[g1 + 1]? = some (.cells #[.int .i64 a, .int .i64 b] 33 (0, 0)) := (((hW3 ▸ grows W2 _ : Below W2.heap.size W2 W3).block (g1 + 1) (by omega)).trans (z1 ▸ hW2 ▸ heap_alloc_new W1 _))
  have x3 : W3.heap[g1 + 2]? = some (.cells #[.slice none 0 0] 28 (0, 0)) := z2 ▸ hW3 ▸ heap_alloc_new W2 _
  obtain ⟨y0, y1, yf⟩ := box2 x2
  have HX := Lib.hid (And.intro x1 (And.intro x2 x3))
  have B3 := Lib.hid b3
  have HR := Lib.hid (show rightB (a, b) = true by unfold rightB; simp [hr])
  have HRP := Lib.hid hr
  have HCN := Lib.hid hc
  have Z3 := Lib.hid z3
  have G1 := Lib.hid hg1
  have HC := Lib.hid (h2.below b3)
  have HN := Lib.hid hn
  rw [hn] at hl
  have hni : (n : Int) ≤ 1000 := by omega
  obtain ⟨r1, r2, r3⟩ := hr
  simp only at r1 r2 r3
  rw [hn]
  clear h1 h2 hn b1 b2 b3 x1 x2 x3 yf hc
  go_enter Try.func10, Try.ntmps10
  go_wp2_with fail
  clear hW1 hW2 hW3 y0 y1
  refine (right_any (a, b) W3).mono ?_
  rw [HR.out]
  rintro e w4 ⟨rfl, hb4⟩
  have HX4 := Lib.hid (show w4.heap[g1]? = some (.cells #[.slice A n c] 28 (0, 0)) ∧ w4.heap[g1 + 1]? = some (.cells #[.int .i64 a, .int .i64 b] 33 (0, 0)) ∧ w4.heap[g1 + 2]? = some (.cells #[.slice none 0 0] 28 (0, 0)) from
    ⟨(hb4.block g1 (by have := Z3.out; omega)).trans HX.out.1, (hb4.block (g1 + 1) (by have := Z3.out; omega)).trans HX.out.2.1, (hb4.block (g1 + 2) (by have := Z3.out; omega)).trans HX.out.2.2⟩)
  have HC4 := Lib.hid (HC.out.below hb4)
  have B4 := Lib.hid (B3.out.trans (hb4.mono B3.out.size))
  have Z4 := Lib.hid (show g1 + 3 ≤ w4.heap.size by have := hb4.size; have := Z3.out; omega)
  obtain ⟨u0, _⟩ := box1 HX4.out.1
  clear hb4
  go_wp2_with fail
  go_loopw [5, 17] (fun v5 i wr => ∃ k : Nat, k ≤ n ∧ i = .int .i64 k ∧ Hid (ORel w4 (cutL (a, b) (X.take k)) v5 wr)) (fun _ i _ => n - (intOf i).toNat)
  case atStart => exact ⟨0, by omega, rfl, Lib.hid (ORel.start w4)⟩
  case round =>
    obtain ⟨k, hk, rfl, HRR⟩ := hrel
    obtain ⟨D, m, d, rfl, hown, hb⟩ := HRR.out
    by_cases hlt : k < n
    · have hki : (k : Int) < (n : Int) := by omega
      obtain ⟨p, hp⟩ := getElem?_lt (l := X) (k := k) (by rw [HN.out]; exact hlt)
      obtain ⟨b', off, rfl, hcell⟩ := (HC4.out.below hb).twos (by rw [HN.out]; omega)
      obtain ⟨q0, q1⟩ := hcell k p hp
      have hm := own_len hown
      rw [cutL_len, List.length_take] at hm
      have hml : m + 2 ≤ 1000000 := by omega
      have HT := Lib.hid (show cutL (a, b) (X.take (k + 1)) = cutL (a, b) (X.take k) ++ cutE (a, b) p by rw [take_snoc X k p hp, cutL_snoc])
      obtain ⟨p1, p2, p3⟩ := HCN.out.1 p (List.mem_of_getElem? hp)
      obtain ⟨y1, y2, yf⟩ := box2 ((hb.block (g1 + 1) (by have := Z4.out; omega)).trans HX4.out.2.1)
      have hgw : g1 + 3 ≤ wr.heap.size := Nat.le_trans Z4.out hb.size
      have hne : wr.heap.size ≠ g1 + 1 := by omega
      have hne1 : wr.heap.size + 1 ≠ g1 + 1 := by omega
      obtain ⟨x1, x2⟩ := p
      simp only at q0 q1 p1 p2 p3
      obtain ⟨M1, hM1⟩ : ∃ M1, min x2 (a - 1) = M1 := ⟨_, rfl⟩
      obtain ⟨M2, hM2⟩ : ∃ M2, max x1 (b + 1) = M2 := ⟨_, rfl⟩
      have HCE := Lib.hid (show cutE (a, b) (x1, x2) = [(x1, M1), (M2, x2)] by
        unfold cutE
        simp only [hM1, hM2])
      obtain ⟨V7, hV7⟩ : ∃ V7, wr.alloc (.cells #[.int .i64 x1, .int .i64 x2] 33) = V7 := ⟨_, rfl⟩
      obtain ⟨V8, hV8⟩ : ∃ V8, V7.alloc (.cells #[.int .i64 x1, .int .i64 M1] 33) = V8 := ⟨_, rfl⟩
      obtain ⟨V9, hV9⟩ : ∃ V9, V8.alloc (.cells #[.int .i64 M2, .int .i64 x2] 33) = V9 := ⟨_, rfl⟩
      obtain ⟨G, hG⟩ : ∃ G, wr.heap.size = G := ⟨_, rfl⟩
      have e7 : V7.heap.size = G + 1 := by rw [← hV7, ← hG]; simp
      have e8 : V8.heap.size = G + 2 := by rw [← hV8]; simp [e7]
      have e9 : V9.heap.size = G + 3 := by rw [← hV9]; simp [e8]
      have c7 : Below wr.heap.size wr V7 := hV7 ▸ grows _ _
      have c78 : Below V7.heap.size V7 V8 := hV8 ▸ grows _ _
      have c89 : Below V8.heap.size V8 V9 := hV9 ▸ grows _ _
      have c8 := c7.trans (c78.mono c7.size)
      have c9 := c8.trans (c89.mono c8.size)
      obtain ⟨s0, s1, _⟩ := box2 (show V7.heap[G]? = some (.cells #[.int .i64 x1, .int .i64 x2] 33 (0, 0)) from hG ▸ hV7 ▸ heap_alloc_new wr _)
      have t0 := cell_below s0 c78
      have t1 := cell_below s1 c78
      have w70 := cell_below y1 c7
      have w81 := cell_below (cell_below y2 c7) c78
      obtain ⟨a0, a1, _⟩ := box2 (show V8.heap[G + 1]? = some (.cells #[.int .i64 x1, .int .i64 M1] 33 (0, 0)) from e7 ▸ hV8 ▸ heap_alloc_new V7 _)
      have a0' := cell_below a0 c89
      have a1' := cell_below a1 c89
      obtain ⟨d0, d1, _⟩ := box2 (show V9.heap[G + 2]? = some (.cells #[.int .i64 M2, .int .i64 x2] 33 (0, 0)) from e8 ▸ hV9 ▸ heap_alloc_new V8 _)
      have HO := Lib.hid (own_below hown c9)
      have HB := Lib.hid (hb.trans (c9.mono hb.size))
      clear hcell hp hown hb hm HRR c7 c78 c89 c8 c9 yf a0 a1
      go_wp2_with (at_builtin; refine put_rg2 (W := w4) rfl _ _ rfl w4.heap.size D m d (cutL (a, b) (X.take k)) rfl HO.out HB.out HB.out.size hml (G + 3) e9 rfl (x1, M1) (M2, x2) ?_; intro A2 c2 w3 hown3 hb3 hw3; rw [← HCE.out, ← HT.out] at hown3; have HR3 := Lib.hid (show ORel w4 (cutL (a, b) (X.take (k + 1))) (.slice A2 (m + 2) c2) w3 from ⟨A2, m + 2, c2, rfl, hown3, hb3⟩); clear hown3 hb3 hw3)
      go_roundw
      case rel => exact ⟨k + 1, by omega, by go_num, HR3⟩
      case measure => simp [intOf]; omega
    · obtain rfl : k = n := by omega
      have hki : ¬ ((k : Int) < (k : Int)) := by omega
      have htk : X.take k = X := List.take_of_length_le (by rw [HN.out]; exact Nat.le_refl _)
      rw [htk] at hown
      have hm := own_len hown
      have HO := Lib.hid (of_any D m d (cutL (a, b) X) wr hm (own_cl hown) (by rw [cutL_len, HN.out]; omega))
      have HB := Lib.hid hb
      clear hown hb HRR htk hm
      go_wp2_with fail
      refine HO.out.mono ?_
      rintro e w6 ⟨v6, Z, rfl, hz, hzl, ⟨A6, c6, rfl, h61, h62⟩, hb6⟩
      have x6 := (hb6.block (g1 + 2) (by have := Z4.out; have := HB.out.size; omega)).trans ((HB.out.block (g1 + 2) (by have := Z4.out; omega)).trans HX4.out.2.2)
      obtain ⟨M, hM⟩ : ∃ M, Z.length = M := ⟨_, rfl⟩
      have HE := Lib.hid (show LessP w (a, b) X (.returned (.agg #[.slice A6 M c6])) (w6.setCell ⟨g1 + 2, 0, none⟩ (.slice A6 M c6)) from by
        refine ⟨_, Z, rfl, hz.1, fun t => ?_, by rw [cutL_len] at hzl; exact hzl, ⟨A6, c6, by rw [hM], h61, cl_box h62 x6 (by intro n e; cases e) _⟩, ?_⟩
        · rw [hz.2, hasR_cut HRP.out HCN.out.1]
        · have h1 := B4.out.trans (HB.out.mono B4.out.size)
          exact (h1.trans (hb6.mono h1.size)).setCell (by have := G1.out; simp; omega) _)
      obtain ⟨y0, yf⟩ := box1 x6
      rw [hM]
      clear hz hzl h61 h62 hb6 x6 hM
      go_wp2_with fail
      exact bodyPost_ret (v := .agg #[.slice A6 M c6]) (by simp [results, Try.results10, go_sem, y0]) rfl HE.out
end Go.Proofs.Ytdmlogpmojmikaa.Tm
