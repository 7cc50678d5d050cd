/- A set of ranges: Of. -/
import Derived.Test.YtbnbammgjmeicaaDoorTmD
import Derived.Test.YtbnbammgjmeicaaDoorTmS
namespace Go.Proofs.YtbnbammgjmeicaaDoor.Tm
open Go.RowKit Go.Sort
set_option linter.unusedVariables false

theorem box1 {W : World} {g : Nat} {t : TypeId} {v : Value} (h : W.heap[g]? = some (.cells #[v] t (0, 0))) : W.cell? ⟨g, 0, none⟩ = some v ∧ W.frozen? ⟨g, 0, none⟩ = false :=
  ⟨by rw [cell_of_row _ _ _ _ _ _ h]; rfl, by simp [World.frozen?, h]⟩
/-- while ranges are joined -/
def OfSt (W2 : World) (g6 : Nat) (X : List Rg) (wr : World) : Prop := ∃ (A : Option Addr) (n c : Nat), wr.heap[g6]? = some (.cells #[.slice A n c] 27 (0, 0)) ∧ wr.ownsRow (g6 + 1) 32 2 (.slice A n c) n (twoC .i64 X) ∧ Below g6 W2 wr
/-- a set is made -/
def SetP (w : World) (l : List Rg) (e : Ending) (w' : World) : Prop := ∃ v X, e = .returned v ∧ Is X l ∧ X.length ≤ l.length ∧ St w' v X ∧ Below w.heap.size w w'
theorem right_all {l : List Rg} (h : ∀ r ∈ l, RightP r) (hs : l.Pairwise fun a b => a.1 ≤ b.1) (k : Nat) : ∀ p ∈ andF (l.take k), RightP p :=
  (andF_ok (l.take k) (fun r hr => h r (List.mem_of_mem_take hr)) (hs.sublist (List.take_sublist k l))).1.1

set_option maxHeartbeats 2000000 in
set_option maxRecDepth 100000 in
theorem of_any (A : Option Addr) (n c : Nat) (l : List Rg) (w : World) (hn : n = l.length) (h : Cl w A (twoC .i64 l)) (hl : l.length ≤ 5000) :
    Calls Tryd.prog 8 #[.slice A n c] w (SetP w l) := by
  subst hn
  obtain ⟨W1, hW1⟩ : ∃ W1, w.alloc (.cells #[.slice none 0 0] 27) = W1 := ⟨_, rfl⟩
  obtain ⟨g0, hg0⟩ : ∃ g0, w.heap.size = g0 := ⟨_, rfl⟩
  have b1 : Below w.heap.size w W1 := hW1 ▸ (Below.refl _ _).alloc (Nat.le_refl _) _
  have hx0 : W1.heap[g0]? = some (.cells #[.slice none 0 0] 27 (0, 0)) := hg0 ▸ hW1 ▸ heap_alloc_new w _
  have HX0 := Lib.hid hx0
  have HL := Lib.hid (h.below b1)
  have B1 := Lib.hid b1
  have HG0 := Lib.hid hg0
  have hli : (l.length : Int) ≤ 5000 := by omega
  clear h hx0 b1
  go_enter Tryd.func8, Tryd.ntmps8
  go_wp2_with fail
  clear hW1
  go_loopw [3, 11] (fun v i wr => ∃ k : Nat, k ≤ l.length ∧ i = .int .i64 k ∧ Hid (ORel W1 ((l.take k).filter rightB) v wr)) (fun _ i _ => l.length - (intOf i).toNat)
  case atStart => exact ⟨0, by omega, rfl, Lib.hid (ORel.start W1)⟩
  case round =>
    obtain ⟨k, hk, rfl, HR⟩ := hrel
    obtain ⟨B, m, d, rfl, hown, hb⟩ := HR.out
    by_cases hlt : k < l.length
    · have hki : (k : Int) < (l.length : Int) := by omega
      obtain ⟨p, hp⟩ := getElem?_lt hlt
      obtain ⟨b, off, rfl, hcell⟩ := (HL.out.below hb).twos (by omega)
      obtain ⟨q0, q1⟩ := hcell k p hp
      have hm := own_len hown
      have hml : m ≤ k := by
        rw [hm]
        have h1 := List.length_filter_le rightB (l.take k)
        rw [List.length_take] at h1
        omega
      have HT := Lib.hid (take_snoc l k p hp)
      have HO := Lib.hid hown
      have HB := Lib.hid hb
      obtain ⟨z, hz⟩ : ∃ z, rightB p = z := ⟨_, rfl⟩
      have HZ := Lib.hid hz
      obtain ⟨p1, p2⟩ := p
      simp only at q0 q1
      clear hcell hp hown hb hm HR hz
      go_wp2_with fail
      have hw1 : Below wr.heap.size wr (wr.alloc (.cells #[.int .i64 p1, .int .i64 p2] 32)) := (Below.refl _ _).alloc (Nat.le_refl _) _
      have hb1 := HB.out.trans (hw1.mono HB.out.size)
      refine (right_any (p1, p2) _).mono ?_
      rw [HZ.out]
      rintro e w2 ⟨rfl, hb2⟩
      have HB2 := Lib.hid (hb1.trans (hb2.mono hb1.size))
      have HO2 := Lib.hid (own_below (own_below HO.out hw1) hb2)
      obtain ⟨x0, x1⟩ := box2b (heap_alloc_new wr (.cells #[.int .i64 p1, .int .i64 p2] 32)) w2 hb2
      have hz2 : wr.heap.size < w2.heap.size := by have := hb2.size; simp at this; omega
      clear hw1 hb1 hb2 q0 q1
      cases z with
      | true =>
        go_wp2_with (at_builtin; refine put_rg (W := W1) rfl _ _ rfl W1.heap.size B m d ((l.take k).filter rightB) rfl HO2.out HB2.out HB2.out.size (by omega) w2.heap.size rfl rfl (p1, p2) ?_)
        intro A2 c2 w3 hown3 hb3 hw3
        have HF := Lib.hid (show (l.take k).filter rightB ++ [(p1, p2)] = (l.take (k + 1)).filter rightB by rw [HT.out, List.filter_append]; congr 1; rw [List.filter_cons, HZ.out]; rfl)
        rw [HF.out] at hown3
        have HR3 := Lib.hid (show ORel W1 ((l.take (k + 1)).filter rightB) (.slice A2 (m + 1) c2) w3 from ⟨A2, m + 1, c2, rfl, hown3, hb3⟩)
        clear hown3 hb3 hw3
        go_wp2_with fail
        go_roundw
        case rel => exact ⟨k + 1, by omega, by go_num, HR3⟩
        case measure => simp [intOf]; omega
      | false =>
        have HF := Lib.hid (show (l.take k).filter rightB = (l.take (k + 1)).filter rightB by rw [HT.out, List.filter_append, List.filter_cons, HZ.out]; simp)
        have hown3 := HO2.out
        rw [HF.out] at hown3
        have HR3 := Lib.hid (show ORel W1 ((l.take (k + 1)).filter rightB) (.slice B m d) w2 from ⟨B, m, d, rfl, hown3, HB2.out⟩)
        clear hown3
        go_wp2_with fail
        go_roundw
        case rel => exact ⟨k + 1, by omega, by go_num, HR3⟩
        case measure => simp [intOf]; omega
    · obtain rfl : k = l.length := by omega
      have hki : ¬ ((l.length : Int) < (l.length : Int)) := by omega
      rw [List.take_length] at hown
      have hm := own_len hown
      have hml : (l.filter rightB).length ≤ l.length := List.length_filter_le _ _
      have HB := Lib.hid hb
      have HO := Lib.hid hown
      have HS := Lib.hid (sort_any W1.heap.size m d B (l.filter rightB) wr hown (by omega))
      have hmi : (m : Int) ≤ 5000 := by omega
      have HM := Lib.hid hm
      have HML := Lib.hid hml
      clear hown hb HR hm hml
      go_wp2_with fail
      refine HS.out.mono ?_
      rintro e w2 ⟨rfl, Y, hperm, hsort, hown2, hg2⟩
      rw [← HM.out] at hown2
      have hb2 := HB.out.grown hg2 HB.out.size (fun k hk => (HO.out.lt k hk).1)
      have hyl : Y.length = m := (own_len hown2).symm
      have hcl := own_cl hown2
      have hyr : ∀ r ∈ Y, RightP r := fun r hr => by
        have := (List.mem_filter.1 (hperm.mem_iff.1 hr)).2
        simpa [rightB] using this
      have HY := Lib.hid (And.intro hyr hsort)
      have HIS := Lib.hid (is_of hperm hsort)
      have HLY := Lib.hid hyl
      obtain ⟨g6, hg6⟩ : ∃ g6, w2.heap.size = g6 := ⟨_, rfl⟩
      obtain ⟨W3, hW3⟩ : ∃ W3, w2.alloc (.cells #[.slice none 0 0] 27) = W3 := ⟨_, rfl⟩
      have b3 : Below w2.heap.size w2 W3 := hW3 ▸ (Below.refl _ _).alloc (Nat.le_refl _) _
      have hx6 : W3.heap[g6]? = some (.cells #[.slice none 0 0] 27 (0, 0)) := hg6 ▸ hW3 ▸ heap_alloc_new w2 _
      have HS0 := Lib.hid (show OfSt w2 g6 [] W3 from ⟨none, 0, 0, hx6, own_nil _ _ _ _, hg6 ▸ b3⟩)
      have HCL := Lib.hid hcl
      have HB2 := Lib.hid hb2
      have HG6 := Lib.hid hg6
      clear hown2 hb2 hcl hyr hyl hperm hsort hg2 b3 hx6 HO HB
      go_wp2_with fail
      clear hW3
      go_loopw [26] (fun i wr => ∃ k : Nat, k ≤ m ∧ i = .int .i64 k ∧ Hid (OfSt w2 g6 (andF (Y.take k)) wr)) (fun i _ => m - (intOf i).toNat)
      case atStart => exact ⟨0, by omega, rfl, HS0⟩
      case round =>
        obtain ⟨k, hk, rfl, HR⟩ := hrel
        obtain ⟨D, n1, c1, hx, hown, hb⟩ := HR.out
        have hgl : g6 < wr.heap.size := (Array.getElem?_eq_some_iff.1 hx).1
        obtain ⟨x0, xf⟩ := box1 hx
        have HB := Lib.hid hb
        have HO := Lib.hid hown
        have hbk : Kept w2 wr := Kept.of_below (HG6.out ▸ hb)
        by_cases hlt : k < m
        · have hki : (k : Int) < (m : Int) := by omega
          obtain ⟨p, hp⟩ := getElem?_lt (l := Y) (k := k) (by rw [HLY.out]; exact hlt)
          obtain ⟨b, off, rfl, hcell⟩ := (HCL.out.kept hbk).twos (by rw [HLY.out]; omega)
          obtain ⟨q0, q1⟩ := hcell k p hp
          have HT := Lib.hid (show andF (Y.take (k + 1)) = andL (andF (Y.take k)) p by rw [take_snoc Y k p hp, andF_snoc])
          obtain ⟨p1, p2⟩ := p
          simp only at q0 q1
          have hw1 : Below wr.heap.size wr (wr.alloc (.cells #[.int .i64 p1, .int .i64 p2] 32)) := (Below.refl _ _).alloc (Nat.le_refl _) _
          have hn1 : n1 ≤ 10000 := by
            have h1 := andF_len (Y.take k)
            rw [List.length_take, ← own_len hown] at h1
            omega
          have HA := Lib.hid (and_any (g6 + 1) n1 c1 D (andF (Y.take k)) p1 p2 (wr.alloc (.cells #[.int .i64 p1, .int .i64 p2] 32)) (wr.alloc (.cells #[.int .i64 p1, .int .i64 p2] 32)) (own_below hown hw1) (Below.refl _ _) (by simp; omega) (right_all HY.out.1 HY.out.2 k) hn1)
          rw [← HT.out] at HA
          have HX := Lib.hid ((hw1.block g6 hgl).trans hx)
          have HBW := Lib.hid (HB.out.trans (hw1.mono (by omega)))
          clear hcell hp hown hb HR hx hbk hw1 hn1
          go_wp2_with fail
          refine HA.out.mono ?_
          rintro e w5 ⟨D2, n2, c2, rfl, ho5, hb5, hz5⟩
          have hx5 := (hb5.block g6 (by omega)).trans HX.out
          obtain ⟨y0, yf⟩ := box1 hx5
          have HR5 := Lib.hid (show OfSt w2 g6 (andF (Y.take (k + 1))) (w5.setCell ⟨g6, 0, none⟩ (.slice D2 n2 c2)) from
            ⟨D2, n2, c2, by rw [heap_set_at hx5]; rfl, ownsRow_setCell_below ho5 (a := ⟨g6, 0, none⟩) (by simp) _, (HBW.out.trans (hb5.mono (by omega))).setCell (by simp) _⟩)
          clear ho5 hb5 hx5 x0 xf q0 q1
          go_wp2_with fail
          go_roundw
          case rel => exact ⟨k + 1, by omega, by go_num, HR5⟩
          case measure => simp [intOf]; omega
        · obtain rfl : k = m := by omega
          have hki : ¬ ((k : Int) < (k : Int)) := by omega
          have hgg : g0 < g6 := by
            have h1 := (Array.getElem?_eq_some_iff.1 HX0.out).1
            have h2 := HB2.out.size
            have := HG6.out
            omega
          have hx00 := ((hb.block g0 hgg).trans (HB2.out.block g0 (Array.getElem?_eq_some_iff.1 HX0.out).1)).trans HX0.out
          obtain ⟨z0, zf⟩ := box1 hx00
          have htk : Y.take k = Y := List.take_of_length_le (by rw [HLY.out]; exact Nat.le_refl _)
          rw [htk] at hown
          have hn1 := own_len hown
          have hne : g0 ≠ g6 := by omega
          have HE := Lib.hid (show SetP w l (.returned (.agg #[.slice D n1 c1])) (wr.setCell ⟨g0, 0, none⟩ (.slice D n1 c1)) from by
            refine ⟨_, andF Y, rfl, HIS.out, ?_, ⟨D, c1, by rw [hn1], own_none hown, ?_⟩, ?_⟩
            · have h1 := andF_len Y
              have := HLY.out
              have := HML.out
              have := HM.out
              omega
            · exact own_cl (ownsRow_setCell_below hown (a := ⟨g0, 0, none⟩) (by simp; omega) _)
            · have := HG0.out
              have h1 := B1.out
              have h2 := h1.trans (HB2.out.mono h1.size)
              have h3 := h2.trans (hb.mono (by omega))
              exact h3.setCell (by simp; omega) _)
          clear hown hb HR hx hbk hx00 htk hn1
          go_wp2_with fail
          exact bodyPost_ret (v := .agg #[.slice D n1 c1]) (by simp [results, Tryd.results8, go_sem, z0]) rfl HE.out
end Go.Proofs.YtbnbammgjmeicaaDoor.Tm
