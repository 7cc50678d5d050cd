/- What Make answers, as a relation. -/
import Derived.Test.YtbibhjcmdehdbaaHsL
import Derived.Test.YtbibhjcmdehdbaaHsM
import Derived.Deep.RegionLaw
/-! Rising lists are one by what they hold. -/
namespace Go.Proofs.Ytbibhjcmdehdbaa
open Go.RowKit Go.Sort Go.Maps
set_option linter.unusedVariables false

theorem side_unique {f g : F3} {sc s sc' s' : Int} {X Y : List (Int × Int)} (aX : Asc X) (aY : Asc Y) (hX : Side f sc s X) (hY : Side g sc' s' Y) (h : ∀ i, I64 i → f s sc i = g s' sc' i) : X = Y := by
  refine asc_unique aX aY fun ⟨i, n⟩ => ?_
  constructor
  · intro hm
    have hi := hX.2.1 _ hm
    rw [hY.2.2 i n hi, ← h i hi]
    exact (hX.2.2 i n hi).1 hm
  · intro hm
    have hi := hY.2.1 _ hm
    rw [hX.2.2 i n hi, h i hi]
    exact (hY.2.2 i n hi).1 hm
/-- a rising list without empty buckets is the side of itself -/
theorem side_self {sc : Int} {P Q : List (Int × Int)} (hP : Asc P) (hw : ∀ p ∈ P, Wb p) (h0 : ∀ p ∈ P, p.2 ≠ 0) (k : Nat) (hk : k = 0) : Side (gF sc P Q) sc 1 P := by
  refine ⟨?_, fun p hp => ⟨(hw p hp).1, (hw p hp).2.1⟩, fun i n hi => ?_⟩
  · rw [List.Nodup, List.pairwise_map]
    exact hP.imp (fun h => by omega)
  · simp only [gF, if_true]
    constructor
    · intro hm
      exact ⟨(atI_asc hP hm).symm, h0 _ hm⟩
    · rintro ⟨e, hn⟩
      by_cases h : ∃ p ∈ P, p.1 = i
      · obtain ⟨p, hp, rfl⟩ := h
        have := atI_asc hP (i := p.1) (n := p.2) hp
        rw [e, this]
        exact hp
      · rw [atI_none (fun p hp e => h ⟨p, hp, e⟩)] at e
        exact absurd e hn
theorem side_self2 {sc : Int} {P Q : List (Int × Int)} (hP : Asc Q) (hw : ∀ p ∈ Q, Wb p) (h0 : ∀ p ∈ Q, p.2 ≠ 0) : Side (gF sc P Q) sc (-1) Q := by
  have h := side_self (sc := sc) (Q := []) hP hw h0 0 rfl
  refine ⟨h.1, h.2.1, fun i n hi => ?_⟩
  rw [h.2.2 i n hi]
  simp [gF]

theorem wbL {l : List (Int × Int)} (h : l.all (fun p => decide (-9223372036854775808 ≤ p.1) && decide (p.1 ≤ 9223372036854775807) && decide (0 ≤ p.2) && decide (p.2 ≤ 18446744073709551615)) = true) : ∀ p ∈ l, Wb p := by
  intro p hp
  have := List.all_eq_true.1 h p hp
  simp at this
  exact ⟨this.1.1.1, this.1.1.2, this.1.2, this.2⟩
end Go.Proofs.Ytbibhjcmdehdbaa

/-! What Make hands out, whatever it is; that it hangs on what the buckets have, index by index. -/
namespace Go.Proofs.Ytbibhjcmdehdbaa
open Go.RowKit Go.Sort Go.Maps
set_option linter.unusedVariables false

theorem bkt_zero {s z : Int} {o : Option Int} {p : Int × Int} (h : bktE s z o p = 0) : inB s p.1 = true ∧ (∀ q, o = some q → q < p.1) ∧ p.2 ≠ 0 := by
  cases o with
  | none =>
    unfold bktE at h
    by_cases h1 : inB s p.1 = false
    · rw [if_pos h1] at h; cases h
    · rw [if_neg h1] at h
      simp only [Bool.false_eq_true, if_false] at h
      by_cases h3 : p.2 = 0
      · rw [if_pos h3] at h; cases h
      · exact ⟨by simpa using h1, (fun q hq => by cases hq), h3⟩
  | some q0 =>
    unfold bktE at h
    by_cases h1 : inB s p.1 = false
    · rw [if_pos h1] at h; cases h
    · rw [if_neg h1] at h
      simp only [decide_eq_true_eq] at h
      by_cases h2 : p.1 ≤ q0
      · rw [if_pos h2] at h; cases h
      · rw [if_neg h2] at h
        by_cases h3 : p.2 = 0
        · rw [if_pos h3] at h; cases h
        · exact ⟨by simpa using h1, (fun q hq => by injection hq with hq; omega), h3⟩
theorem walk_zero {s z : Int} : ∀ {l : List (Int × Int)} {o : Option Int}, walkE s z o l = 0 → Asc l ∧ (∀ p ∈ l, p.2 ≠ 0 ∧ inB s p.1 = true) ∧ (∀ q, o = some q → ∀ p ∈ l, q < p.1)
  | [], _, _ => ⟨List.Pairwise.nil, by simp, by simp⟩
  | a :: r, o, h => by
    unfold walkE at h
    by_cases hb : bktE s z o a ≠ 0
    · rw [if_pos hb] at h; exact absurd h hb
    · rw [if_neg hb] at h
      obtain ⟨b1, b2, b3⟩ := bkt_zero (show bktE s z o a = 0 by omega)
      obtain ⟨i1, i2, i3⟩ := walk_zero h
      have h3 := i3 a.1 rfl
      refine ⟨List.pairwise_cons.2 ⟨fun p hp => h3 p hp, i1⟩, fun p hp => ?_, fun q hq p hp => ?_⟩
      · rcases List.mem_cons.1 hp with rfl | hp
        · exact ⟨b3, b1⟩
        · exact i2 p hp
      · have := b2 q hq
        rcases List.mem_cons.1 hp with rfl | hp
        · exact this
        · have := h3 p hp
          omega
theorem side_zero {s z : Int} {l : List (Int × Int)} (h : sideE s z l = 0) : l.length ≤ 512 ∧ Asc l ∧ ∀ p ∈ l, p.2 ≠ 0 := by
  unfold sideE at h
  by_cases h1 : 512 < l.length
  · rw [if_pos h1] at h; cases h
  · rw [if_neg h1] at h
    obtain ⟨a, b, _⟩ := walk_zero h
    exact ⟨by omega, a, fun p hp => (b p hp).1⟩
theorem check_zero {k s z zc ct : Int} {P Q : List (Int × Int)} (h : checkF k s z zc ct P Q = 0) : kindE k s z = 0 ∧ sideE s z P = 0 ∧ sideE s z Q = 0 ∧ zc + cnt (P ++ Q) ≤ 18446744073709551615 ∧ zc + cnt (P ++ Q) = ct := by
  unfold checkF at h
  by_cases h1 : kindE k s z ≠ 0
  · rw [if_pos h1] at h; exact absurd h h1
  · rw [if_neg h1] at h
    by_cases h2 : sideE s z P ≠ 0
    · rw [if_pos h2] at h; exact absurd h h2
    · rw [if_neg h2] at h
      by_cases h3 : sideE s z Q ≠ 0
      · rw [if_pos h3] at h; exact absurd h h3
      · rw [if_neg h3] at h
        by_cases h4 : zc + cnt (P ++ Q) ≤ 18446744073709551615
        · rw [if_pos h4] at h
          by_cases h5 : zc + cnt (P ++ Q) = ct
          · exact ⟨by omega, by omega, by omega, h4, h5⟩
          · rw [if_neg h5] at h; cases h
        · rw [if_neg h4] at h; cases h
/-- what is made: of no use (its fields all nought), or the histogram -/
def MkOut (k s z zc sm : Int) (P Q : List (Int × Int)) (k' s' z' zc' ct' sm' : Int) (X Y : List (Int × Int)) (E : Int) : Prop :=
  (E ≠ 0 ∧ (k' = 0 ∧ s' = 0 ∧ z' = 0 ∧ zc' = 0 ∧ ct' = 0 ∧ sm' = 0 ∧ X = [] ∧ Y = []) ∧ ((18446744073709551615 < zc + cnt (P ++ Q) ∧ E = 5) ∨ (zc + cnt (P ++ Q) ≤ 18446744073709551615 ∧ ∃ X0 Y0, Asc X0 ∧ Asc Y0 ∧ Side (gF s P Q) s 1 X0 ∧ Side (gF s P Q) s (-1) Y0 ∧ E = checkF k s z zc (zc + cnt (P ++ Q)) X0 Y0))) ∨
  (E = 0 ∧ zc + cnt (P ++ Q) ≤ 18446744073709551615 ∧ Asc X ∧ Asc Y ∧ Side (gF s P Q) s 1 X ∧ Side (gF s P Q) s (-1) Y ∧ checkF k s z zc (zc + cnt (P ++ Q)) X Y = 0 ∧ k' = k ∧ s' = s ∧ z' = z ∧ zc' = zc ∧ ct' = zc + cnt (P ++ Q) ∧ sm' = sm)
theorem MkOut.one {k s z zc sm : Int} {P Q P2 Q2 : List (Int × Int)} (hc : cnt (P ++ Q) = cnt (P2 ++ Q2)) (hf : ∀ a c i, gF s P Q a c i = gF s P2 Q2 a c i) {k1 s1 z1 zc1 ct1 sm1 : Int} {X1 Y1 : List (Int × Int)} {E1 : Int} {k2 s2 z2 zc2 ct2 sm2 : Int} {X2 Y2 : List (Int × Int)} {E2 : Int}
    (h1 : MkOut k s z zc sm P Q k1 s1 z1 zc1 ct1 sm1 X1 Y1 E1) (h2 : MkOut k s z zc sm P2 Q2 k2 s2 z2 zc2 ct2 sm2 X2 Y2 E2) : E2 = E1 ∧ k2 = k1 ∧ s2 = s1 ∧ z2 = z1 ∧ zc2 = zc1 ∧ ct2 = ct1 ∧ sm2 = sm1 ∧ X2 = X1 ∧ Y2 = Y1 := by
  unfold MkOut at h1 h2
  rw [← hc] at h2
  have un : ∀ {Xa Ya Xb Yb : List (Int × Int)}, Asc Xa → Asc Ya → Side (gF s P Q) s 1 Xa → Side (gF s P Q) s (-1) Ya → Asc Xb → Asc Yb → Side (gF s P2 Q2) s 1 Xb → Side (gF s P2 Q2) s (-1) Yb → Xb = Xa ∧ Yb = Ya := fun a1 a2 a3 a4 b1 b2 b3 b4 =>
    ⟨side_unique b1 a1 b3 a3 (fun i _ => (hf _ _ i).symm), side_unique b2 a2 b4 a4 (fun i _ => (hf _ _ i).symm)⟩
  rcases h1 with ⟨n1, z1', c1⟩ | ⟨n1, l1, a1, a2, a3, a4, c1, f1⟩
  · rcases h2 with ⟨n2, z2', c2⟩ | ⟨n2, l2, b1, b2, b3, b4, c2, f2⟩
    · obtain ⟨rfl, rfl, rfl, rfl, rfl, rfl, rfl, rfl⟩ := z1'
      obtain ⟨rfl, rfl, rfl, rfl, rfl, rfl, rfl, rfl⟩ := z2'
      refine ⟨?_, rfl, rfl, rfl, rfl, rfl, rfl, rfl, rfl⟩
      rcases c1 with ⟨c1, e1⟩ | ⟨c1, Xa, Ya, a1, a2, a3, a4, e1⟩
      · rcases c2 with ⟨c2, e2⟩ | ⟨c2, _⟩
        · rw [e1, e2]
        · omega
      · rcases c2 with ⟨c2, e2⟩ | ⟨c2, Xb, Yb, b1, b2, b3, b4, e2⟩
        · omega
        · obtain ⟨rfl, rfl⟩ := un a1 a2 a3 a4 b1 b2 b3 b4
          rw [e1, e2]
    · exfalso
      rcases c1 with ⟨c1, e1⟩ | ⟨c1, Xa, Ya, a1, a2, a3, a4, e1⟩
      · omega
      · obtain ⟨rfl, rfl⟩ := un a1 a2 a3 a4 b1 b2 b3 b4
        rw [c2] at e1
        exact n1 e1
  · rcases h2 with ⟨n2, z2', c2⟩ | ⟨n2, l2, b1, b2, b3, b4, c2, f2⟩
    · exfalso
      rcases c2 with ⟨c2, e2⟩ | ⟨c2, Xb, Yb, b1, b2, b3, b4, e2⟩
      · omega
      · obtain ⟨rfl, rfl⟩ := un a1 a2 a3 a4 b1 b2 b3 b4
        rw [c1] at e2
        exact n2 e2
    · obtain ⟨rfl, rfl⟩ := un a1 a2 a3 a4 b1 b2 b3 b4
      obtain ⟨rfl, rfl, rfl, rfl, rfl, rfl⟩ := f1
      obtain ⟨rfl, rfl, rfl, rfl, rfl, rfl⟩ := f2
      exact ⟨by rw [n1, n2], rfl, rfl, rfl, rfl, rfl, rfl, rfl, rfl⟩
/-- what is made of its own buckets -/
theorem MkOut.again {k s z zc sm : Int} {P Q : List (Int × Int)} {k1 s1 z1 zc1 ct1 sm1 : Int} {X1 Y1 : List (Int × Int)} {E1 : Int} {k2 s2 z2 zc2 ct2 sm2 : Int} {X2 Y2 : List (Int × Int)} {E2 : Int}
    (h1 : MkOut k s z zc sm P Q k1 s1 z1 zc1 ct1 sm1 X1 Y1 E1) (h0 : E1 = 0) (hX : ∀ p ∈ X1, Wb p) (hY : ∀ p ∈ Y1, Wb p) (h2 : MkOut k1 s1 z1 zc1 sm1 X1 Y1 k2 s2 z2 zc2 ct2 sm2 X2 Y2 E2) :
    (E2 = 0 ∧ k2 = k1 ∧ s2 = s1 ∧ z2 = z1 ∧ zc2 = zc1 ∧ ct2 = ct1 ∧ sm2 = sm1 ∧ X2 = X1 ∧ Y2 = Y1) ∧ checkF k1 s1 z1 zc1 ct1 X1 Y1 = 0 ∧ X1.length ≤ 512 ∧ Y1.length ≤ 512 := by
  rcases h1 with ⟨n1, _⟩ | ⟨_, l1, a1, a2, a3, a4, c1, rfl, rfl, rfl, rfl, rfl, rfl⟩
  · exact absurd h0 n1
  · obtain ⟨_, q1, q2, q3, q4⟩ := check_zero c1
    obtain ⟨j1, _, s3⟩ := side_zero q1
    obtain ⟨t1, _, t3⟩ := side_zero q2
    have u1 := side_self (sc := s1) (Q := Y1) a1 hX s3 0 rfl
    have u2 := side_self2 (sc := s1) (P := X1) a2 hY t3
    refine ⟨?_, c1, j1, t1⟩
    have hself : MkOut k1 s1 z1 zc1 sm1 X1 Y1 k1 s1 z1 zc1 (zc1 + cnt (P ++ Q)) sm1 X1 Y1 0 := .inr ⟨rfl, q3, a1, a2, u1, u2, by rw [q4]; exact c1, rfl, rfl, rfl, rfl, q4.symm, rfl⟩
    exact MkOut.one rfl (fun _ _ _ => rfl) hself h2
end Go.Proofs.Ytbibhjcmdehdbaa

/-! What Make answers, as a relation. -/
namespace Go.Proofs.Ytbibhjcmdehdbaa
open Go.RowKit Go.Sort Go.Maps
set_option linter.unusedVariables false

def MakeRes (w : World) (k s z zc sm : Int) (P Q : List (Int × Int)) (e : Ending) (w' : World) : Prop :=
  ∃ (k' s' z' zc' ct' sm' : Int) (A C : Option Addr) (c d : Nat) (X Y : List (Int × Int)) (E : Int), e = .returned (.tuple #[.agg #[.int .i64 k', .int .i64 s', .int .i64 z', .int .u64 zc', .int .u64 ct', .int .i64 sm', .slice A X.length c, .slice C Y.length d], .int .i64 E]) ∧
    MkOut k s z zc sm P Q k' s' z' zc' ct' sm' X Y E ∧ Bk w' A X ∧ Bk w' C Y ∧ I64 s' ∧ (0 ≤ zc' ∧ zc' ≤ 18446744073709551615) ∧ (NewA w A ∧ NewA w C) ∧ Below w.heap.size w w'
theorem newA_none (w : World) : NewA w none := fun a h => by cases h
theorem make_res (k s z zc ct sm : Int) (A0 B0 A B : Option Addr) (n0 c0 m0 d0 c d : Nat) (P Q : List (Int × Int)) (w : World) (hs : I64 s) (z0 : 0 ≤ zc) (z1 : zc ≤ 18446744073709551615) (hP : Bk w A P) (hQ : Bk w B Q) (hlp : P.length ≤ 1100) (hlq : Q.length ≤ 1100) :
    Calls Try.prog 40 #[.agg #[.int .i64 k, .int .i64 s, .int .i64 z, .int .u64 zc, .int .u64 ct, .int .i64 sm, .slice A0 n0 c0, .slice B0 m0 d0], .slice A P.length c, .slice B Q.length d] w (MakeRes w k s z zc sm P Q) := by
  refine (make_any k s z zc ct sm A0 B0 A B n0 c0 m0 d0 c d P Q w hs z0 z1 hP hQ hlp hlq).mono ?_
  rintro e w' ⟨hb, h⟩
  rcases h with ⟨h, rfl⟩ | ⟨hc, A', C', c', d', X, Y, hX, hY, aX, aY, sX, sY, hl, nA, nC, h⟩
  · exact ⟨0, 0, 0, 0, 0, 0, none, none, 0, 0, [], [], 5, rfl, .inl ⟨by decide, ⟨rfl, rfl, rfl, rfl, rfl, rfl, rfl, rfl⟩, .inl ⟨h, rfl⟩⟩, Bk.nil _ _, Bk.nil _ _, ⟨by decide, by decide⟩, ⟨by decide, by decide⟩, ⟨newA_none _, newA_none _⟩, hb⟩
  · rcases h with ⟨h, rfl⟩ | ⟨h, rfl⟩
    · exact ⟨0, 0, 0, 0, 0, 0, none, none, 0, 0, [], [], _, rfl, .inl ⟨h, ⟨rfl, rfl, rfl, rfl, rfl, rfl, rfl, rfl⟩, .inr ⟨hc, X, Y, aX, aY, sX, sY, rfl⟩⟩, Bk.nil _ _, Bk.nil _ _, ⟨by decide, by decide⟩, ⟨by decide, by decide⟩, ⟨newA_none _, newA_none _⟩, hb⟩
    · exact ⟨k, s, z, zc, _, sm, A', C', c', d', X, Y, 0, rfl, .inr ⟨rfl, hc, aX, aY, sX, sY, h, rfl, rfl, rfl, rfl, rfl, rfl⟩, hX, hY, hs, ⟨z0, z1⟩, ⟨nA, nC⟩, hb⟩
end Go.Proofs.Ytbibhjcmdehdbaa
