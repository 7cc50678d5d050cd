/- What Make hands out, whatever it is; that it hangs on what the buckets have, index by index. -/
import Derived.Test.YtofaciagkkipbaaHsO
namespace Go.Proofs.Ytofaciagkkipbaa
open Go.RowKit Go.Sort Go.Maps
set_option linter.unusedVariables false

theorem bkt_zero {s z : Int} {o : Option Int} {p : Int × Int} (h : bktE s z o p = 0) : inB s p.1 = true ∧ (∀ q, o = some q → q < p.1) ∧ p.2 ≠ 0 := by
  cases o with
  | none =>
    unfold bktE at h
    by_cases h1 : inB s p.1 = false
    · rw [if_pos h1] at h; cases h
    · rw [if_neg h1] at h
      simp only [Bool.false_eq_true, if_false] at h
      by_cases h3 : p.2 = 0
      · rw [if_pos h3] at h; cases h
      · exact ⟨by simpa using h1, (fun q hq => by cases hq), h3⟩
  | some q0 =>
    unfold bktE at h
    by_cases h1 : inB s p.1 = false
    · rw [if_pos h1] at h; cases h
    · rw [if_neg h1] at h
      simp only [decide_eq_true_eq] at h
      by_cases h2 : p.1 ≤ q0
      · rw [if_pos h2] at h; cases h
      · rw [if_neg h2] at h
        by_cases h3 : p.2 = 0
        · rw [if_pos h3] at h; cases h
        · exact ⟨by simpa using h1, (fun q hq => by injection hq with hq; omega), h3⟩
theorem walk_zero {s z : Int} : ∀ {l : List (Int × Int)} {o : Option Int}, walkE s z o l = 0 → Asc l ∧ (∀ p ∈ l, p.2 ≠ 0 ∧ inB s p.1 = true) ∧ (∀ q, o = some q → ∀ p ∈ l, q < p.1)
  | [], _, _ => ⟨List.Pairwise.nil, by simp, by simp⟩
  | a :: r, o, h => by
    unfold walkE at h
    by_cases hb : bktE s z o a ≠ 0
    · rw [if_pos hb] at h; exact absurd h hb
    · rw [if_neg hb] at h
      obtain ⟨b1, b2, b3⟩ := bkt_zero (show bktE s z o a = 0 by omega)
      obtain ⟨i1, i2, i3⟩ := walk_zero h
      have h3 := i3 a.1 rfl
      refine ⟨List.pairwise_cons.2 ⟨fun p hp => h3 p hp, i1⟩, fun p hp => ?_, fun q hq p hp => ?_⟩
      · rcases List.mem_cons.1 hp with rfl | hp
        · exact ⟨b3, b1⟩
        · exact i2 p hp
      · have := b2 q hq
        rcases List.mem_cons.1 hp with rfl | hp
        · exact this
        · have := h3 p hp
          omega
theorem side_zero {s z : Int} {l : List (Int × Int)} (h : sideE s z l = 0) : l.length ≤ 512 ∧ Asc l ∧ ∀ p ∈ l, p.2 ≠ 0 := by
  unfold sideE at h
  by_cases h1 : 512 < l.length
  · rw [if_pos h1] at h; cases h
  · rw [if_neg h1] at h
    obtain ⟨a, b, _⟩ := walk_zero h
    exact ⟨by omega, a, fun p hp => (b p hp).1⟩
theorem check_zero {k s z zc ct : Int} {P Q : List (Int × Int)} (h : checkF k s z zc ct P Q = 0) : kindE k s z = 0 ∧ sideE s z P = 0 ∧ sideE s z Q = 0 ∧ zc + cnt (P ++ Q) ≤ 18446744073709551615 ∧ zc + cnt (P ++ Q) = ct := by
  unfold checkF at h
  by_cases h1 : kindE k s z ≠ 0
  · rw [if_pos h1] at h; exact absurd h h1
  · rw [if_neg h1] at h
    by_cases h2 : sideE s z P ≠ 0
    · rw [if_pos h2] at h; exact absurd h h2
    · rw [if_neg h2] at h
      by_cases h3 : sideE s z Q ≠ 0
      · rw [if_pos h3] at h; exact absurd h h3
      · rw [if_neg h3] at h
        by_cases h4 : zc + cnt (P ++ Q) ≤ 18446744073709551615
        · rw [if_pos h4] at h
          by_cases h5 : zc + cnt (P ++ Q) = ct
          · exact ⟨by omega, by omega, by omega, h4, h5⟩
          · rw [if_neg h5] at h; cases h
        · rw [if_neg h4] at h; cases h
/-- what is made: of no use (its fields all nought), or the histogram -/
def MkOut (k s z zc sm : Int) (P Q : List (Int × Int)) (k' s' z' zc' ct' sm' : Int) (X Y : List (Int × Int)) (E : Int) : Prop :=
  (E ≠ 0 ∧ (k' = 0 ∧ s' = 0 ∧ z' = 0 ∧ zc' = 0 ∧ ct' = 0 ∧ sm' = 0 ∧ X = [] ∧ Y = []) ∧ ((18446744073709551615 < zc + cnt (P ++ Q) ∧ E = 5) ∨ (zc + cnt (P ++ Q) ≤ 18446744073709551615 ∧ ∃ X0 Y0, Asc X0 ∧ Asc Y0 ∧ Side (gF s P Q) s 1 X0 ∧ Side (gF s P Q) s (-1) Y0 ∧ E = checkF k s z zc (zc + cnt (P ++ Q)) X0 Y0))) ∨
  (E = 0 ∧ zc + cnt (P ++ Q) ≤ 18446744073709551615 ∧ Asc X ∧ Asc Y ∧ Side (gF s P Q) s 1 X ∧ Side (gF s P Q) s (-1) Y ∧ checkF k s z zc (zc + cnt (P ++ Q)) X Y = 0 ∧ k' = k ∧ s' = s ∧ z' = z ∧ zc' = zc ∧ ct' = zc + cnt (P ++ Q) ∧ sm' = sm)
theorem MkOut.one {k s z zc sm : Int} {P Q P2 Q2 : List (Int × Int)} (hc : cnt (P ++ Q) = cnt (P2 ++ Q2)) (hf : ∀ a c i, gF s P Q a c i = gF s P2 Q2 a c i) {k1 s1 z1 zc1 ct1 sm1 : Int} {X1 Y1 : List (Int × Int)} {E1 : Int} {k2 s2 z2 zc2 ct2 sm2 : Int} {X2 Y2 : List (Int × Int)} {E2 : Int}
    (h1 : MkOut k s z zc sm P Q k1 s1 z1 zc1 ct1 sm1 X1 Y1 E1) (h2 : MkOut k s z zc sm P2 Q2 k2 s2 z2 zc2 ct2 sm2 X2 Y2 E2) : E2 = E1 ∧ k2 = k1 ∧ s2 = s1 ∧ z2 = z1 ∧ zc2 = zc1 ∧ ct2 = ct1 ∧ sm2 = sm1 ∧ X2 = X1 ∧ Y2 = Y1 := by
  unfold MkOut at h1 h2
  rw [← hc] at h2
  have un : ∀ {Xa Ya Xb Yb : List (Int × Int)}, Asc Xa → Asc Ya → Side (gF s P Q) s 1 Xa → Side (gF s P Q) s (-1) Ya → Asc Xb → Asc Yb → Side (gF s P2 Q2) s 1 Xb → Side (gF s P2 Q2) s (-1) Yb → Xb = Xa ∧ Yb = Ya := fun a1 a2 a3 a4 b1 b2 b3 b4 =>
    ⟨side_unique b1 a1 b3 a3 (fun i _ => (hf _ _ i).symm), side_unique b2 a2 b4 a4 (fun i _ => (hf _ _ i).symm)⟩
  rcases h1 with ⟨n1, z1', c1⟩ | ⟨n1, l1, a1, a2, a3, a4, c1, f1⟩
  · rcases h2 with ⟨n2, z2', c2⟩ | ⟨n2, l2, b1, b2, b3, b4, c2, f2⟩
    · obtain ⟨rfl, rfl, rfl, rfl, rfl, rfl, rfl, rfl⟩ := z1'
      obtain ⟨rfl, rfl, rfl, rfl, rfl, rfl, rfl, rfl⟩ := z2'
      refine ⟨?_, rfl, rfl, rfl, rfl, rfl, rfl, rfl, rfl⟩
      rcases c1 with ⟨c1, e1⟩ | ⟨c1, Xa, Ya, a1, a2, a3, a4, e1⟩
      · rcases c2 with ⟨c2, e2⟩ | ⟨c2, _⟩
        · rw [e1, e2]
        · omega
      · rcases c2 with ⟨c2, e2⟩ | ⟨c2, Xb, Yb, b1, b2, b3, b4, e2⟩
        · omega
        · obtain ⟨rfl, rfl⟩ := un a1 a2 a3 a4 b1 b2 b3 b4
          rw [e1, e2]
    · exfalso
      rcases c1 with ⟨c1, e1⟩ | ⟨c1, Xa, Ya, a1, a2, a3, a4, e1⟩
      · omega
      · obtain ⟨rfl, rfl⟩ := un a1 a2 a3 a4 b1 b2 b3 b4
        rw [c2] at e1
        exact n1 e1
  · rcases h2 with ⟨n2, z2', c2⟩ | ⟨n2, l2, b1, b2, b3, b4, c2, f2⟩
    · exfalso
      rcases c2 with ⟨c2, e2⟩ | ⟨c2, Xb, Yb, b1, b2, b3, b4, e2⟩
      · omega
      · obtain ⟨rfl, rfl⟩ := un a1 a2 a3 a4 b1 b2 b3 b4
        rw [c1] at e2
        exact n2 e2
    · obtain ⟨rfl, rfl⟩ := un a1 a2 a3 a4 b1 b2 b3 b4
      obtain ⟨rfl, rfl, rfl, rfl, rfl, rfl⟩ := f1
      obtain ⟨rfl, rfl, rfl, rfl, rfl, rfl⟩ := f2
      exact ⟨by rw [n1, n2], rfl, rfl, rfl, rfl, rfl, rfl, rfl, rfl⟩
/-- what is made of its own buckets -/
theorem MkOut.again {k s z zc sm : Int} {P Q : List (Int × Int)} {k1 s1 z1 zc1 ct1 sm1 : Int} {X1 Y1 : List (Int × Int)} {E1 : Int} {k2 s2 z2 zc2 ct2 sm2 : Int} {X2 Y2 : List (Int × Int)} {E2 : Int}
    (h1 : MkOut k s z zc sm P Q k1 s1 z1 zc1 ct1 sm1 X1 Y1 E1) (h0 : E1 = 0) (hX : ∀ p ∈ X1, Wb p) (hY : ∀ p ∈ Y1, Wb p) (h2 : MkOut k1 s1 z1 zc1 sm1 X1 Y1 k2 s2 z2 zc2 ct2 sm2 X2 Y2 E2) :
    (E2 = 0 ∧ k2 = k1 ∧ s2 = s1 ∧ z2 = z1 ∧ zc2 = zc1 ∧ ct2 = ct1 ∧ sm2 = sm1 ∧ X2 = X1 ∧ Y2 = Y1) ∧ checkF k1 s1 z1 zc1 ct1 X1 Y1 = 0 ∧ X1.length ≤ 512 ∧ Y1.length ≤ 512 := by
  rcases h1 with ⟨n1, _⟩ | ⟨_, l1, a1, a2, a3, a4, c1, rfl, rfl, rfl, rfl, rfl, rfl⟩
  · exact absurd h0 n1
  · obtain ⟨_, q1, q2, q3, q4⟩ := check_zero c1
    obtain ⟨j1, _, s3⟩ := side_zero q1
    obtain ⟨t1, _, t3⟩ := side_zero q2
    have u1 := side_self (sc := s1) (Q := Y1) a1 hX s3 0 rfl
    have u2 := side_self2 (sc := s1) (P := X1) a2 hY t3
    refine ⟨?_, c1, j1, t1⟩
    have hself : MkOut k1 s1 z1 zc1 sm1 X1 Y1 k1 s1 z1 zc1 (zc1 + cnt (P ++ Q)) sm1 X1 Y1 0 := .inr ⟨rfl, q3, a1, a2, u1, u2, by rw [q4]; exact c1, rfl, rfl, rfl, rfl, q4.symm, rfl⟩
    exact MkOut.one rfl (fun _ _ _ => rfl) hself h2
end Go.Proofs.Ytofaciagkkipbaa
