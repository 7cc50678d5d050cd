/- slices.Concat of two; Ranges, Empty. -/
import Derived.Test.YtdmlogpmojmikaaTmB
namespace Go.Proofs.Ytdmlogpmojmikaa.Tm
open Go.RowKit Go.Sort
set_option linter.unusedVariables false

def GrowP (w : World) (e : Ending) (w' : World) : Prop := ∃ G c, e = .returned (.slice G 0 c) ∧ w'.ownsRow w.heap.size 33 2 (.slice G 0 c) 0 (twoC .i64 []) ∧ Below w.heap.size w w'
theorem grow_any (n : Nat) (w : World) (hn : n ≤ 1000000) :
    Calls Try.prog 35 #[.slice none 0 0, .int .i64 (n : Int)] w (GrowP w) := by
  by_cases h0 : n = 0
  · subst h0
    refine (grow_0 w).mono ?_
    rintro e w' ⟨rfl, rfl⟩
    exact ⟨none, 0, rfl, own_nil _ _ _ _, Below.refl _ _⟩
  · refine (grow_new n w (by omega) hn).mono ?_
    rintro e w' ⟨c, rfl, h1, h2⟩
    exact ⟨_, c, rfl, h1, h2⟩
set_option maxHeartbeats 1000000 in
set_option maxRecDepth 100000 in
theorem concat_any (g : Nat) (A B : Option Addr) (n m c d : Nat) (l L : List Rg) (w : World) (h0 : w.cell? ⟨g, 0, none⟩ = some (.slice A n c)) (h1 : w.cell? ⟨g, 1, none⟩ = some (.slice B m d))
    (hn : n = l.length) (hm : m = L.length) (hA : Cl w A (twoC .i64 l)) (hB : Cl w B (twoC .i64 L)) (zA : A = none → c = 0) (zB : B = none → d = 0) (hl : l.length ≤ 1000) (hL : L.length ≤ 1000) :
    Calls Try.prog 26 #[.slice (some ⟨g, 0, none⟩) 2 2] w (RowP w (l ++ L)) := by
  obtain ⟨N, hN⟩ : ∃ N, n + m = N := ⟨_, rfl⟩
  have hNi : (n : Int) + (m : Int) = (N : Int) := by omega
  have hn1 : (n : Int) ≤ 1000 := by omega
  have hN1 : (N : Int) ≤ 2000 := by omega
  have hN2 : ¬ (N : Int) < 0 := by omega
  have hn2 : ¬ (n : Int) < 0 := by omega
  have HN := Lib.hid hN
  have HA := Lib.hid hA
  have HB := Lib.hid hB
  have ZA := Lib.hid zA
  have ZB := Lib.hid zB
  have Hn := Lib.hid hn
  have Hm := Lib.hid hm
  have HL := Lib.hid (And.intro hl hL)
  have H0 := Lib.hid h0
  have H1 := Lib.hid h1
  clear hA hB zA zB hn hm hN hl hL
  go_enter Try.func26, Try.ntmps26
  go_wp2_with fail
  refine wp_loop_rounds 3 ?_
  rw [rounds_succ]
  go_wp2_with fail
  rw [rounds_succ]
  go_wp2_with fail
  rw [rounds_succ]
  go_wp2_with fail
  refine (grow_any N w (by omega)).mono ?_
  rintro e w1 ⟨G, cg, rfl, ho, hb⟩
  have HO := Lib.hid ho
  have HB1 := Lib.hid hb
  have k0 := cell_below h0 hb
  have k1 := cell_below h1 hb
  clear ho hb h0 h1
  go_wp2_with fail
  refine wp_loop_rounds 3 ?_
  rw [rounds_succ]
  go_wp2_with (at_builtin; refine app_rgs rfl _ _ rfl w.heap.size G 0 cg [] rfl HO.out A n c l rfl ZA.out Hn.out.symm (HA.out.below HB1.out) n (by omega) (by omega) HB1.out.size ?_; intro A2 c2 w2 ho2 hg2; have HO2 := Lib.hid ho2; have HB2 := Lib.hid (HB1.out.grown hg2 HB1.out.size (fun k hk => (HO.out.lt k hk).1)); clear ho2 hg2 k0 k1; have k0 := cell_below H0.out HB2.out; have k1 := cell_below H1.out HB2.out)
  rw [rounds_succ]
  go_wp2_with (at_builtin; refine app_rgs rfl _ _ rfl w.heap.size A2 n c2 ([] ++ l) rfl HO2.out B m d L rfl ZB.out Hm.out.symm (HB.out.below HB2.out) N HN.out (by omega) HB2.out.size ?_; intro A3 c3 w3 ho3 hg3; have HO3 := Lib.hid ho3; have HB3 := Lib.hid (HB2.out.grown hg3 HB2.out.size (fun k hk => (HO2.out.lt k hk).1)); clear ho3 hg3 k0 k1)
  rw [rounds_succ]
  go_wp2_with fail
  go_ret
  have e : (l ++ L).length = N := by rw [List.length_append, ← Hn.out, ← Hm.out, HN.out]
  refine ⟨A3, c3, by rw [e]; rfl, ?_, HB3.out⟩
  rw [e]
  exact HO3.out
/-- a set that reads as X -/
def St (w : World) (v : Value) (X : List Rg) : Prop := ∃ A c, v = .agg #[.slice A X.length c] ∧ (A = none → c = 0) ∧ Cl w A (twoC .i64 X)
theorem St.below {w w' : World} {v : Value} {X : List Rg} (h : St w v X) (k : Below w.heap.size w w') : St w' v X := by
  obtain ⟨A, c, h1, h2, h3⟩ := h
  exact ⟨A, c, h1, h2, h3.below k⟩
theorem St.nil (w : World) : St w (.agg #[.slice none 0 0]) [] := ⟨none, 0, rfl, fun _ => rfl, Cl.nil _ _⟩
theorem ranges_any (v : Value) (X : List Rg) (w : World) (h : St w v X) (hl : X.length ≤ 10000) :
    Calls Try.prog 12 #[v] w (RowP w X) := by
  obtain ⟨A, c, rfl, h1, h2⟩ := h
  obtain ⟨n, hn⟩ : ∃ n, X.length = n := ⟨_, rfl⟩
  have hb0 : Below w.heap.size w (w.alloc (.cells #[.slice A n c] 28)) := (Below.refl _ _).alloc (Nat.le_refl _) _
  have HB0 := Lib.hid hb0
  have HC := Lib.hid (h2.below hb0)
  have HN := Lib.hid hn
  rw [hn]
  clear hn hb0 h1 h2
  go_enter Try.func12, Try.ntmps12
  go_wp2_with fail
  refine (clone_any A n c X _ HN.out.symm HC.out (by omega)).mono ?_
  rintro e w2 ⟨A2, c2, rfl, ho, hb⟩
  have HP := Lib.hid (show RowP w X (.returned (.slice A2 X.length c2)) w2 from ⟨A2, c2, rfl, own_base ho HB0.out.size, HB0.out.trans (hb.mono HB0.out.size)⟩)
  clear ho hb
  go_wp2_with fail
  go_ret
  exact HP.out
theorem empty_any (v : Value) (X : List Rg) (w : World) (h : St w v X) :
    Calls Try.prog 19 #[v] w fun e w' => e = .returned (.bool (decide (X = []))) ∧ Below w.heap.size w w' := by
  obtain ⟨A, c, rfl, h1, h2⟩ := h
  obtain ⟨n, hn⟩ : ∃ n, X.length = n := ⟨_, rfl⟩
  have HE := Lib.hid (show ((n : Int) == 0) = decide (X = []) by
    rw [Bool.eq_iff_iff, decide_eq_true_eq, beq_iff_eq, ← List.length_eq_zero_iff, hn]
    omega)
  rw [hn]
  clear hn h1 h2
  go_enter Try.func19, Try.ntmps19
  go_wp2_with fail
  go_ret
  exact ⟨ret_bool HE.out, (Below.refl _ _).alloc (Nat.le_refl _) _⟩
end Go.Proofs.Ytdmlogpmojmikaa.Tm
