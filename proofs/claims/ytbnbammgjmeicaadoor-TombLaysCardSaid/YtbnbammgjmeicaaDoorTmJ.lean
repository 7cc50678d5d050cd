/- Are two sets one: the law's own same. -/
import Derived.Test.YtbnbammgjmeicaaDoorTmI
import Derived.Deep.CutRange
namespace Go.Proofs.YtbnbammgjmeicaaDoor.Tm
open Go.RowKit Go.Sort
set_option linter.unusedVariables false

theorem RowP.cl {w w' : World} {X : List Rg} {A : Option Addr} {c : Nat} (h : w'.ownsRow w.heap.size 32 2 (.slice A X.length c) X.length (twoC .i64 X)) : Cl w' A (twoC .i64 X) := own_cl h
def SamR (W0 : World) (X Y : List Rg) (v5 v6 : Value) (wx : World) : Prop := ∃ A n c B m d, v5 = .slice A n c ∧ v6 = .slice B m d ∧ n = X.length ∧ m = Y.length ∧ Cl wx A (twoC .i64 X) ∧ Cl wx B (twoC .i64 Y) ∧ Below W0.heap.size W0 wx
def EqR2 (P Q : List Rg) (w : World) (i : Value) (wr : World) : Prop := ∃ k : Nat, k ≤ P.length ∧ i = .int .i64 k ∧ P.take k = Q.take k ∧ ∃ q, wr = w.drewN q
def RowN (w : World) (X : List Rg) (e : Ending) (w' : World) : Prop := ∃ A n c, e = .returned (.slice A n c) ∧ n = X.length ∧ Cl w' A (twoC .i64 X) ∧ (A = none → c = 0) ∧ Below w.heap.size w w'
theorem RowP.n {w w' : World} {X : List Rg} {e : Ending} (h : RowP w X e w') : RowN w X e w' := by
  obtain ⟨A, c, rfl, h1, h2⟩ := h
  exact ⟨A, _, c, rfl, rfl, own_cl h1, own_none h1, h2⟩
set_option maxHeartbeats 4000000 in
set_option maxRecDepth 100000 in
theorem same_any (v u : Value) (X Y : List Rg) (w : World) (h : St w v X) (k : St w u Y) (hl1 : X.length ≤ 10000) (hl2 : Y.length ≤ 10000) :
    Calls Tryd.prog 15 #[v, u] w fun e w' => e = .returned (.bool (eqL X Y)) ∧ Below w.heap.size w w' := by
  obtain ⟨A, c, rfl, h1, h2⟩ := h
  obtain ⟨B, d, rfl, k1, k2⟩ := k
  obtain ⟨n, hn⟩ : ∃ n, X.length = n := ⟨_, rfl⟩
  obtain ⟨m, hm⟩ : ∃ m, Y.length = m := ⟨_, rfl⟩
  obtain ⟨W1, hW1⟩ : ∃ W1, w.alloc (.cells #[.slice A n c] 27) = W1 := ⟨_, rfl⟩
  obtain ⟨W0, hW0⟩ : ∃ W0, W1.alloc (.cells #[.slice B m d] 27) = W0 := ⟨_, rfl⟩
  obtain ⟨g1, hg1⟩ : ∃ g, w.heap.size = g := ⟨_, rfl⟩
  have z1 : W1.heap.size = g1 + 1 := by rw [← hW1, ← hg1]; simp
  have z2 : W0.heap.size = g1 + 2 := by rw [← hW0]; simp [z1]
  have b1 : Below w.heap.size w W1 := hW1 ▸ grows _ _
  have b10 : Below W1.heap.size W1 W0 := hW0 ▸ grows W1 _
  have b2 := b1.trans (b10.mono b1.size)
  have x1 : W0.heap[g1]? = some (.cells #[.slice A n c] 27 (0, 0)) := (b10.block g1 (by omega)).trans (hg1 ▸ hW1 ▸ heap_alloc_new w _)
  have x2 : W0.heap[g1 + 1]? = some (.cells #[.slice B m d] 27 (0, 0)) := z1 ▸ hW0 ▸ heap_alloc_new W1 _
  have HX := Lib.hid (fun W (hW : Below W0.heap.size W0 W) => And.intro (box1 ((hW.block g1 (by omega)).trans x1)).1 (box1 ((hW.block (g1 + 1) (by omega)).trans x2)).1)
  have HR1 := Lib.hid (fun W (hW : Below W0.heap.size W0 W) => (ranges_any (.agg #[.slice A n c]) X W ⟨A, c, by rw [hn], h1, (h2.below b2).below hW⟩ hl1).mono fun e w' h => RowP.n h)
  have HR2 := Lib.hid (fun W (hW : Below W0.heap.size W0 W) => (ranges_any (.agg #[.slice B m d]) Y W ⟨B, d, by rw [hm], k1, (k2.below b2).below hW⟩ hl2).mono fun e w' h => RowP.n h)
  have HB0 := Lib.hid b2
  have HN := Lib.hid (And.intro hn hm)
  have HL := Lib.hid (And.intro hl1 hl2)
  obtain ⟨y0, y1⟩ := HX.out W0 (Below.refl _ _)
  rw [hn, hm]
  clear h1 h2 k1 k2 hn hm b1 b10 b2 x1 x2 hl1 hl2
  have hgd := guardS
  go_enter Tryd.func15, Tryd.ntmps15
  go_wp2_with fail
  clear hW1 hW0
  have g0 : Below W0.heap.size W0 W0.drew := (Below.refl _ _).drew
  go_cut [5, 6] from 8 (fun v5 v6 wx => Hid (SamR W0 X Y v5 v6 wx))
  case first =>
    go_region_with (go_at_call 6; first
      | ((with_reducible refine (HR1.out _ (by first | assumption | exact below_drewN (Below.refl _ _) _ | exact (Below.refl _ _).drew)).mono ?_); rintro e w2 ⟨A1, n1, c1, rfl, hn1, hc1, hz1, hb1⟩; have HC1 := Lib.hid (And.intro hn1 hc1); have HB1 := Lib.hid hb1; have p1 : Below W0.heap.size W0 w2 := Below.trans (by first | assumption | exact below_drewN (Below.refl _ _) _ | exact (Below.refl _ _).drew) (hb1.mono (by first | exact Nat.le_refl _ | exact (by assumption : Below W0.heap.size W0 _).size)); obtain ⟨x0, x1⟩ := HX.out w2 p1; clear hn1 hc1 hz1 hb1)
      | ((with_reducible refine (HR2.out _ (by first | assumption | exact below_drewN (Below.refl _ _) _ | exact (Below.refl _ _).drew)).mono ?_); rintro e w3 ⟨A2, n2, c2, rfl, hn2, hc2, hz2, hb2⟩; have HC2 := Lib.hid (And.intro hn2 hc2); have HB2 := Lib.hid hb2; have p2 : Below W0.heap.size W0 w3 := Below.trans (by first | assumption | exact below_drewN (Below.refl _ _) _ | exact (Below.refl _ _).drew) (hb2.mono (by first | exact Nat.le_refl _ | exact (by assumption : Below W0.heap.size W0 _).size)); obtain ⟨u0, u1⟩ := HX.out w3 p2; clear hn2 hc2 hz2 hb2))
    all_goals (go_wp2_with fail)
    all_goals go_meet
    all_goals (refine Lib.hid ⟨A1, n1, c1, A2, n2, c2, rfl, rfl, HC1.out.1, HC2.out.1, ?_, ?_, ?_⟩)
    all_goals first | exact HC1.out.2 | exact HC2.out.2 | exact HC1.out.2.below HB2.out | exact HC2.out.2.below HB1.out | exact p2 | exact p1
  case rest =>
    obtain ⟨A1, n1, c1, A2, n2, c2, rfl, rfl, hn1, hn2, hc1, hc2, hb⟩ := hcut.out
    have HP := Lib.hid hc1
    have HQ := Lib.hid hc2
    have HB := Lib.hid (HB0.out.trans (hb.mono HB0.out.size))
    have H1 := Lib.hid hn1
    have H2 := Lib.hid hn2
    clear hc1 hc2 hb hcut y0 y1 g0
    have hn9 : (n1 : Int) ≤ 10000 := by have := HL.out.1; omega
    by_cases hlen : n1 = n2
    · subst hlen
      have t0 : ((n1 : Int) != (n1 : Int)) = false := by simp
      clear hn1 hn2
      go_wp2_with fail
      go_loopw [19] (fun i wr => ∃ k : Nat, k ≤ n1 ∧ i = .int .i64 k ∧ Hid (X.take k = Y.take k) ∧ ∃ q, wr = wc.drewN q) (fun i _ => n1 - (intOf i).toNat)
      case atStart => exact ⟨0, by omega, rfl, Lib.hid rfl, 0, rfl⟩
      case round =>
        obtain ⟨k, hk, rfl, HT, nd, rfl⟩ := hrel
        by_cases hlt : k < n1
        · obtain ⟨b1, o1, rfl, h1⟩ := HP.out.twos (by have := H1.out; omega)
          obtain ⟨b2, o2, rfl, h2⟩ := HQ.out.twos (by have := H2.out; omega)
          obtain ⟨p, hp⟩ := getElem?_lt (l := X) (k := k) (by have := H1.out; omega)
          obtain ⟨q, hq⟩ := getElem?_lt (l := Y) (k := k) (by have := H2.out; omega)
          obtain ⟨p1, p2⟩ := h1 k p hp
          obtain ⟨q1, q2⟩ := h2 k q hq
          have hki : (k : Int) < (n1 : Int) := by omega
          obtain ⟨pi, pc⟩ := p
          obtain ⟨qi, qc⟩ := q
          simp only at p1 p2 q1 q2
          have hne := neqS pi pc qi qc
          by_cases he : pi = qi ∧ pc = qc
          · obtain ⟨rfl, rfl⟩ := he
            simp only [beq_self_eq_true, Bool.and_self, Bool.not_true] at hne
            have HN := Lib.hid (take_both hp hq HT.out)
            clear h1 h2 hp hq HT
            go_wp2_with fail
            go_quiet (fail)
            go_wp2_with fail
            go_roundw
            case rel => exact ⟨k + 1, by omega, by go_num, HN, _, rfl⟩
            case measure => simp [intOf]; omega
          · have hx : (!(pi == qi && pc == qc)) = true := by
              by_cases h : pi = qi
              · have : ¬ pc = qc := fun e => he ⟨h, e⟩
                simp [h, this]
              · simp [h]
            rw [hx] at hne
            have HN := Lib.hid (eqL_at hp hq (fun e => he (by simpa using e)))
            clear h1 h2 hp hq hx he HT
            go_wp2_with fail
            go_quiet (fail)
            go_wp2_with fail
            go_ret
            first | exact ⟨ret_bool HN.out.symm, below_drewN (below_drewN HB.out _) _⟩ | exact ⟨ret_bool HN.out.symm, below_drewN (below_drewN (hg1 ▸ HB.out) _) _⟩
        · obtain rfl : k = n1 := by omega
          have hki : ¬ ((k : Int) < (k : Int)) := by omega
          have HN := Lib.hid (show true = eqL X Y by
            have h1 := HT.out
            rw [List.take_of_length_le (by rw [← H1.out]; exact Nat.le_refl _), List.take_of_length_le (by rw [← H2.out]; exact Nat.le_refl _)] at h1
            exact ((eqL_iff X Y).2 h1).symm)
          go_wp2_with fail
          go_ret
          first | exact ⟨ret_bool HN.out, below_drewN HB.out _⟩ | exact ⟨ret_bool HN.out, below_drewN (hg1 ▸ HB.out) _⟩
    · have t0 : ((n1 : Int) != (n2 : Int)) = true := by simp; omega
      have HN := Lib.hid (eqL_len (P := X) (Q := Y) (by rw [← hn1, ← hn2]; exact hlen))
      clear hlen hn1 hn2
      go_wp2_with fail
      go_ret
      first | exact ⟨ret_bool HN.out.symm, HB.out⟩ | exact ⟨ret_bool HN.out.symm, hg1 ▸ HB.out⟩
end Go.Proofs.YtbnbammgjmeicaaDoor.Tm
