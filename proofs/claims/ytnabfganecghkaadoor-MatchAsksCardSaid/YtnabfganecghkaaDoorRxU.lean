/- The places that are made of a pattern, held against a text, say what the pattern means. -/
import Derived.Test.YtnabfganecghkaaDoorRxT
namespace Go.Proofs.YtnabfganecghkaaDoor
set_option linter.unusedVariables false

theorem linkP_at (P : List Pl) (a b k : Nat) : (linkP P a b)[k]? = (P[k]?).map fun p => if a.testBit k then ⟨p.X, p.n ||| b⟩ else p := by
  unfold linkP
  rw [List.getElem?_mapIdx]
theorem linkP_len (P : List Pl) (a b : Nat) : (linkP P a b).length = P.length := by simp [linkP]
structure Rep (x : Rx) (P0 : List Pl) : Prop where
  len : (glu x P0).2.length = (gl x P0.length).m
  f : ∀ p, (glu x P0).1.f.testBit p = true ↔ (gl x P0.length).F p
  l : ∀ p, (glu x P0).1.l.testBit p = true ↔ (gl x P0.length).La p
  e : (glu x P0).1.e = (gl x P0.length).e
  old : ∀ p, p < P0.length → (glu x P0).2[p]? = P0[p]?
  new : ∀ p y, P0.length ≤ p → (glu x P0).2[p]? = some y → (∀ c, y.X c = (gl x P0.length).S p c) ∧ ∀ q, y.n.testBit q = true ↔ (gl x P0.length).R p q
theorem testBit_or_iff (a b k : Nat) : (a ||| b).testBit k = true ↔ a.testBit k = true ∨ b.testBit k = true := by
  rw [Nat.testBit_or, Bool.or_eq_true]
/-- links within a piece's own places -/
theorem rep_link {x : Rx} {P0 : List Pl} (h : Rep x P0) (p : Nat) (y : Pl) (hp : P0.length ≤ p) (hy : (linkP (glu x P0).2 (glu x P0).1.l (glu x P0).1.f)[p]? = some y) :
    (∀ c, y.X c = (gl x P0.length).S p c) ∧ ∀ q, y.n.testBit q = true ↔ (gl x P0.length).R p q ∨ ((gl x P0.length).La p ∧ (gl x P0.length).F q) := by
  rw [linkP_at] at hy
  cases hz : (glu x P0).2[p]? with
  | none => rw [hz] at hy; cases hy
  | some z =>
    rw [hz] at hy
    obtain ⟨h1, h2⟩ := h.new p z hp hz
    have hl := h.l p
    by_cases ht : (glu x P0).1.l.testBit p = true
    · simp only [Option.map_some, ht, if_true, Option.some.injEq] at hy
      subst hy
      refine ⟨h1, fun q => ?_⟩
      rw [testBit_or_iff, h2, h.f]
      constructor
      · rintro (h | h)
        · exact .inl h
        · exact .inr ⟨hl.1 ht, h⟩
      · rintro (h | ⟨_, h⟩)
        · exact .inl h
        · exact .inr h
    · simp only [Option.map_some, ht, Option.some.injEq] at hy
      simp at hy
      subst hy
      refine ⟨h1, fun q => ?_⟩
      rw [h2]
      constructor
      · exact .inl
      · rintro (h | ⟨h, _⟩)
        · exact h
        · exact absurd (hl.2 h) ht
theorem rep_old {x : Rx} {P0 : List Pl} (h : Rep x P0) (p : Nat) (hp : p < P0.length) : (linkP (glu x P0).2 (glu x P0).1.l (glu x P0).1.f)[p]? = P0[p]? := by
  rw [linkP_at, h.old p hp]
  have ht : ¬ (glu x P0).1.l.testBit p = true := fun ht => by
    have := (gl_wf x P0.length).La p ((h.l p).1 ht)
    omega
  cases P0[p]? with
  | none => rfl
  | some y => simp [ht]
theorem rep : ∀ (x : Rx) (P0 : List Pl), Rep x P0
  | .one X, P0 => by
    refine ⟨by simp [glu, gl], ?_, ?_, rfl, ?_, ?_⟩
    · intro p
      show (2 ^ P0.length).testBit p = true ↔ p = P0.length
      rw [Nat.testBit_two_pow, decide_eq_true_eq]
      exact eq_comm
    · intro p
      show (2 ^ P0.length).testBit p = true ↔ p = P0.length
      rw [Nat.testBit_two_pow, decide_eq_true_eq]
      exact eq_comm
    · intro p hp
      show (P0 ++ [(⟨X, 0⟩ : Pl)])[p]? = P0[p]?
      rw [List.getElem?_append_left hp]
    · intro p y hp hy
      have hy' : (P0 ++ [(⟨X, 0⟩ : Pl)])[p]? = some y := hy
      rw [List.getElem?_append_right hp] at hy'
      have h0 : p - P0.length = 0 := by
        have := (List.getElem?_eq_some_iff.1 hy').1
        simp at this
        omega
      rw [h0] at hy'
      simp at hy'
      subst hy'
      have hpe : p = P0.length := by omega
      refine ⟨fun c => ?_, fun q => ?_⟩
      · show X c = (decide (p = P0.length) && X c)
        simp [hpe]
      · show (0 : Nat).testBit q = true ↔ False
        simp
  | .eps, P0 => by
    refine ⟨rfl, ?_, ?_, rfl, fun _ _ => rfl, ?_⟩
    · intro p
      show (0 : Nat).testBit p = true ↔ False
      simp
    · intro p
      show (0 : Nat).testBit p = true ↔ False
      simp
    · intro p y hp hy
      have hy' : P0[p]? = some y := hy
      have := (List.getElem?_eq_some_iff.1 hy').1
      omega
  | .cat a b, P0 => by
    have ha := rep a P0
    have hb := rep b (glu a P0).2
    have wa := gl_wf a P0.length
    have wb := gl_wf b (gl a P0.length).m
    obtain ⟨al, af, ala, ae, aold, anew⟩ := ha
    obtain ⟨bl, bf, bla, be, bold, bnew⟩ := hb
    rw [al] at bl bf bla be bold bnew
    have nm1 := wa.nm
    have nm2 := wb.nm
    obtain ⟨pa, hpa⟩ : ∃ pa, (glu a P0).1 = pa := ⟨_, rfl⟩
    obtain ⟨P1, hP1⟩ : ∃ P1, (glu a P0).2 = P1 := ⟨_, rfl⟩
    obtain ⟨pb, hpb⟩ : ∃ pb, (glu b P1).1 = pb := ⟨_, rfl⟩
    obtain ⟨P2, hP2⟩ : ∃ P2, (glu b P1).2 = P2 := ⟨_, rfl⟩
    rw [hpa] at af ala ae
    rw [hP1] at al aold anew bl bf bla be bold bnew
    rw [hpb] at bf bla be
    rw [hP2] at bl bold bnew
    obtain ⟨x, hx⟩ : ∃ x, gl a P0.length = x := ⟨_, rfl⟩
    rw [hx] at wa wb nm1 nm2 ae ala af anew al bl bf bla be bold bnew
    obtain ⟨y, hy⟩ : ∃ y, gl b x.m = y := ⟨_, rfl⟩
    rw [hy] at wb nm2 be bla bf bnew bl
    have g1 : (glu (.cat a b) P0).1 = joinP pa pb := by rw [glu, hP1, hpa, hpb]
    have g2 : (glu (.cat a b) P0).2 = linkP P2 pa.l pb.f := by rw [glu, hP1, hpa, hpb, hP2]
    have g3 : gl (.cat a b) P0.length = ⟨fun p => x.F p ∨ (x.e = true ∧ y.F p), fun p => y.La p ∨ (y.e = true ∧ x.La p), fun p q => x.R p q ∨ y.R p q ∨ (x.La p ∧ y.F q), fun p c => x.S p c || y.S p c, x.e && y.e, y.m⟩ := by rw [gl, hx, hy]
    have nl : ∀ p, (p < P0.length ∨ x.m ≤ p) → ¬ pa.l.testBit p = true := fun p hp ht => by
      have := wa.La p ((ala p).1 ht)
      omega
    refine ⟨?_, ?_, ?_, ?_, ?_, ?_⟩
    · rw [g2, g3, linkP_len]; exact bl
    · intro p
      rw [g1, g3]
      show (if pa.e = true then pa.f ||| pb.f else pa.f).testBit p = true ↔ x.F p ∨ (x.e = true ∧ y.F p)
      rw [ae]
      split
      · rename_i he
        rw [testBit_or_iff, af, bf]
        exact ⟨fun h => h.elim .inl (fun h => .inr ⟨he, h⟩), fun h => h.elim .inl (fun h => .inr h.2)⟩
      · rename_i he
        rw [af]
        exact ⟨.inl, fun h => h.elim id (fun h => absurd h.1 he)⟩
    · intro p
      rw [g1, g3]
      show (if pb.e = true then pb.l ||| pa.l else pb.l).testBit p = true ↔ y.La p ∨ (y.e = true ∧ x.La p)
      rw [be]
      split
      · rename_i he
        rw [testBit_or_iff, ala, bla]
        exact ⟨fun h => h.elim .inl (fun h => .inr ⟨he, h⟩), fun h => h.elim .inl (fun h => .inr h.2)⟩
      · rename_i he
        rw [bla]
        exact ⟨.inl, fun h => h.elim id (fun h => absurd h.1 he)⟩
    · rw [g1, g3]
      show (pa.e && pb.e) = (x.e && y.e)
      rw [ae, be]
    · intro p hp
      rw [g2, linkP_at, bold p (by omega), aold p hp]
      have := nl p (.inl hp)
      cases P0[p]? with
      | none => rfl
      | some z => simp [this]
    · intro p z hp hz
      rw [g2, linkP_at] at hz
      rw [g3]
      show (∀ c, z.X c = (x.S p c || y.S p c)) ∧ ∀ q, z.n.testBit q = true ↔ x.R p q ∨ y.R p q ∨ (x.La p ∧ y.F q)
      by_cases hpx : p < x.m
      · rw [bold p (by omega)] at hz
        cases hz1 : P1[p]? with
        | none => rw [hz1] at hz; cases hz
        | some u =>
          rw [hz1] at hz
          obtain ⟨h1, h2⟩ := anew p u hp hz1
          have hSn : ∀ c, y.S p c = false := fun c => by
            cases h : y.S p c with
            | false => rfl
            | true => have := wb.S p c h; omega
          by_cases ht : pa.l.testBit p = true
          · simp only [Option.map_some, ht, if_true, Option.some.injEq] at hz
            subst hz
            refine ⟨fun c => ?_, fun q => ?_⟩
            · rw [hSn, Bool.or_false]; exact h1 c
            · rw [testBit_or_iff, h2, bf]
              constructor
              · rintro (h | h)
                · exact .inl h
                · exact .inr (.inr ⟨(ala p).1 ht, h⟩)
              · rintro (h | h | ⟨_, h⟩)
                · exact .inl h
                · have := wb.R p q h; omega
                · exact .inr h
          · simp [ht] at hz
            subst hz
            refine ⟨fun c => ?_, fun q => ?_⟩
            · rw [hSn, Bool.or_false]; exact h1 c
            · rw [h2]
              constructor
              · exact .inl
              · rintro (h | h | ⟨h, _⟩)
                · exact h
                · have := wb.R p q h; omega
                · exact absurd ((ala p).2 h) ht
      · have ht := nl p (.inr (by omega))
        cases hz1 : P2[p]? with
        | none => rw [hz1] at hz; cases hz
        | some u =>
          rw [hz1] at hz
          simp [ht] at hz
          subst hz
          obtain ⟨h1, h2⟩ := bnew p u (by omega) hz1
          have hSn : ∀ c, x.S p c = false := fun c => by
            cases h : x.S p c with
            | false => rfl
            | true => have := wa.S p c h; omega
          refine ⟨fun c => ?_, fun q => ?_⟩
          · rw [hSn, Bool.false_or]; exact h1 c
          · rw [h2]
            constructor
            · exact fun h => .inr (.inl h)
            · rintro (h | h | ⟨h, _⟩)
              · have := wa.R p q h; omega
              · exact h
              · have := wa.La p h; omega
  | .alt a b, P0 => by
    have ha := rep a P0
    have hb := rep b (glu a P0).2
    have wa := gl_wf a P0.length
    have wb := gl_wf b (gl a P0.length).m
    obtain ⟨al, af, ala, ae, aold, anew⟩ := ha
    obtain ⟨bl, bf, bla, be, bold, bnew⟩ := hb
    rw [al] at bl bf bla be bold bnew
    have nm1 := wa.nm
    have nm2 := wb.nm
    obtain ⟨pa, hpa⟩ : ∃ pa, (glu a P0).1 = pa := ⟨_, rfl⟩
    obtain ⟨P1, hP1⟩ : ∃ P1, (glu a P0).2 = P1 := ⟨_, rfl⟩
    obtain ⟨pb, hpb⟩ : ∃ pb, (glu b P1).1 = pb := ⟨_, rfl⟩
    obtain ⟨P2, hP2⟩ : ∃ P2, (glu b P1).2 = P2 := ⟨_, rfl⟩
    rw [hpa] at af ala ae
    rw [hP1] at al aold anew bl bf bla be bold bnew
    rw [hpb] at bf bla be
    rw [hP2] at bl bold bnew
    obtain ⟨x, hx⟩ : ∃ x, gl a P0.length = x := ⟨_, rfl⟩
    rw [hx] at wa wb nm1 nm2 ae ala af anew al bl bf bla be bold bnew
    obtain ⟨y, hy⟩ : ∃ y, gl b x.m = y := ⟨_, rfl⟩
    rw [hy] at wb nm2 be bla bf bnew bl
    have g1 : (glu (.alt a b) P0).1 = eithP pa pb := by rw [glu, hP1, hpa, hpb]
    have g2 : (glu (.alt a b) P0).2 = P2 := by rw [glu, hP1, hP2]
    have g3 : gl (.alt a b) P0.length = ⟨fun p => x.F p ∨ y.F p, fun p => x.La p ∨ y.La p, fun p q => x.R p q ∨ y.R p q, fun p c => x.S p c || y.S p c, x.e || y.e, y.m⟩ := by rw [gl, hx, hy]
    refine ⟨?_, ?_, ?_, ?_, ?_, ?_⟩
    · rw [g2, g3]; exact bl
    · intro p
      rw [g1, g3]
      show (pa.f ||| pb.f).testBit p = true ↔ x.F p ∨ y.F p
      rw [testBit_or_iff, af, bf]
    · intro p
      rw [g1, g3]
      show (pa.l ||| pb.l).testBit p = true ↔ x.La p ∨ y.La p
      rw [testBit_or_iff, ala, bla]
    · rw [g1, g3]
      show (pa.e || pb.e) = (x.e || y.e)
      rw [ae, be]
    · intro p hp
      rw [g2, bold p (by omega), aold p hp]
    · intro p z hp hz
      rw [g2] at hz
      rw [g3]
      show (∀ c, z.X c = (x.S p c || y.S p c)) ∧ ∀ q, z.n.testBit q = true ↔ x.R p q ∨ y.R p q
      by_cases hpx : p < x.m
      · rw [bold p (by omega)] at hz
        obtain ⟨h1, h2⟩ := anew p z hp hz
        have hSn : ∀ c, y.S p c = false := fun c => by
          cases h : y.S p c with
          | false => rfl
          | true => have := wb.S p c h; omega
        refine ⟨fun c => ?_, fun q => ?_⟩
        · rw [hSn, Bool.or_false]; exact h1 c
        · rw [h2]
          constructor
          · exact .inl
          · rintro (h | h)
            · exact h
            · have := wb.R p q h; omega
      · obtain ⟨h1, h2⟩ := bnew p z (by omega) hz
        have hSn : ∀ c, x.S p c = false := fun c => by
          cases h : x.S p c with
          | false => rfl
          | true => have := wa.S p c h; omega
        refine ⟨fun c => ?_, fun q => ?_⟩
        · rw [hSn, Bool.false_or]; exact h1 c
        · rw [h2]
          constructor
          · exact .inr
          · rintro (h | h)
            · have := wa.R p q h; omega
            · exact h
  | .star a, P0 => by
    have ha := rep a P0
    refine ⟨?_, ha.f, ha.l, rfl, rep_old ha, rep_link ha⟩
    show (linkP (glu a P0).2 _ _).length = _
    rw [linkP_len]; exact ha.len
  | .plus a, P0 => by
    have ha := rep a P0
    refine ⟨?_, ha.f, ha.l, ha.e, rep_old ha, rep_link ha⟩
    show (linkP (glu a P0).2 _ _).length = _
    rw [linkP_len]; exact ha.len
  | .opt a, P0 => by
    have ha := rep a P0
    exact ⟨ha.len, ha.f, ha.l, rfl, ha.old, ha.new⟩
/-- one byte, place by place -/
theorem stepF_bits (m c : Nat) : ∀ (r : List Pl) (k : Nat) (a : Nat × Nat),
    (∀ j, (stepF m c k r a).1.testBit j = true ↔ a.1.testBit j = true ∨ ∃ i y, r[i]? = some y ∧ j = k + i ∧ m.testBit j = true ∧ y.X c = true) ∧
    (∀ j, (stepF m c k r a).2.testBit j = true ↔ a.2.testBit j = true ∨ ∃ i y, r[i]? = some y ∧ m.testBit (k + i) = true ∧ y.X c = true ∧ y.n.testBit j = true)
  | [], k, a => by
    refine ⟨fun j => ?_, fun j => ?_⟩
    · unfold stepF
      exact ⟨.inl, fun h => h.elim id (fun ⟨i, y, h, _⟩ => by simp at h)⟩
    · unfold stepF
      exact ⟨.inl, fun h => h.elim id (fun ⟨i, y, h, _⟩ => by simp at h)⟩
  | p :: r, k, a => by
    obtain ⟨ih1, ih2⟩ := stepF_bits m c r (k + 1) (if m.testBit k && p.X c then (a.1 ||| 2 ^ k, a.2 ||| p.n) else a)
    have e1 : ∀ j, (if m.testBit k && p.X c then (a.1 ||| 2 ^ k, a.2 ||| p.n) else a).1.testBit j = true ↔ a.1.testBit j = true ∨ (j = k ∧ m.testBit k = true ∧ p.X c = true) := fun j => by
      split
      · rename_i h
        rw [Bool.and_eq_true] at h
        rw [testBit_or_iff, Nat.testBit_two_pow, decide_eq_true_eq]
        exact ⟨fun x => x.elim .inl (fun e => .inr ⟨e.symm, h⟩), fun x => x.elim .inl (fun e => .inr e.1.symm)⟩
      · rename_i h
        rw [Bool.and_eq_true] at h
        exact ⟨.inl, fun x => x.elim id (fun e => absurd e.2 h)⟩
    have e2 : ∀ j, (if m.testBit k && p.X c then (a.1 ||| 2 ^ k, a.2 ||| p.n) else a).2.testBit j = true ↔ a.2.testBit j = true ∨ (m.testBit k = true ∧ p.X c = true ∧ p.n.testBit j = true) := fun j => by
      split
      · rename_i h
        rw [Bool.and_eq_true] at h
        rw [testBit_or_iff]
        exact ⟨fun x => x.elim .inl (fun e => .inr ⟨h.1, h.2, e⟩), fun x => x.elim .inl (fun e => .inr e.2.2)⟩
      · rename_i h
        rw [Bool.and_eq_true] at h
        exact ⟨.inl, fun x => x.elim id (fun e => absurd ⟨e.1, e.2.1⟩ h)⟩
    refine ⟨fun j => ?_, fun j => ?_⟩
    · rw [stepF, ih1, e1]
      constructor
      · rintro ((h | ⟨h1, h2, h3⟩) | ⟨i, y, h1, h2, h3, h4⟩)
        · exact .inl h
        · exact .inr ⟨0, p, rfl, by omega, by rw [h1]; exact h2, h3⟩
        · exact .inr ⟨i + 1, y, by simpa using h1, by omega, h3, h4⟩
      · rintro (h | ⟨i, y, h1, h2, h3, h4⟩)
        · exact .inl (.inl h)
        · cases i with
          | zero =>
            simp at h1
            subst h1
            have : j = k := by omega
            subst this
            exact .inl (.inr ⟨rfl, h3, h4⟩)
          | succ i => exact .inr ⟨i, y, by simpa using h1, by omega, h3, h4⟩
    · rw [stepF, ih2, e2]
      constructor
      · rintro ((h | ⟨h1, h2, h3⟩) | ⟨i, y, h1, h2, h3, h4⟩)
        · exact .inl h
        · exact .inr ⟨0, p, rfl, h1, h2, h3⟩
        · exact .inr ⟨i + 1, y, by simpa using h1, by rw [show k + (i + 1) = k + 1 + i by omega]; exact h2, h3, h4⟩
      · rintro (h | ⟨i, y, h1, h2, h3, h4⟩)
        · exact .inl (.inl h)
        · cases i with
          | zero =>
            simp at h1
            subst h1
            exact .inl (.inr ⟨h2, h3, h4⟩)
          | succ i => exact .inr ⟨i, y, by simpa using h1, by rw [show k + 1 + i = k + (i + 1) by omega]; exact h2, h3, h4⟩
theorem and_ne {a b : Nat} : (!(a &&& b == 0)) = true ↔ ∃ p, a.testBit p = true ∧ b.testBit p = true := by
  constructor
  · intro h
    have hne : a &&& b ≠ 0 := by simpa using h
    obtain ⟨i, hi⟩ : ∃ i, (a &&& b).testBit i = true := Classical.byContradiction fun hn => hne (Nat.eq_of_testBit_eq fun i => by
      rw [Nat.zero_testBit]
      cases h : (a &&& b).testBit i with
      | false => rfl
      | true => exact absurd ⟨i, h⟩ hn)
    rw [Nat.testBit_and, Bool.and_eq_true] at hi
    exact ⟨i, hi⟩
  · rintro ⟨p, h1, h2⟩
    have : (a &&& b).testBit p = true := by rw [Nat.testBit_and, h1, h2]; rfl
    have hne : a &&& b ≠ 0 := fun h => by rw [h] at this; simp at this
    simpa using hne
/-- held against a text, from some places on -/
theorem simF_acc (P : List Pl) (last : Nat) (S : Nat → Nat → Bool) (R : Nat → Nat → Prop) (La : Nat → Prop)
    (hS : ∀ p c, S p c = true → p < P.length) (hP : ∀ p y, P[p]? = some y → (∀ c, y.X c = S p c) ∧ ∀ q, y.n.testBit q = true ↔ R p q) (hL : ∀ p, last.testBit p = true ↔ La p) :
    ∀ (s : List UInt8) (m : Nat) (e : Bool), simF P last m e s = true ↔ (s = [] ∧ e = true) ∨ ∃ p, m.testBit p = true ∧ Acc S R La (fun v => v = []) s p
  | [], m, e => by
    rw [simF]
    exact ⟨fun h => .inl ⟨rfl, h⟩, fun h => h.elim (fun h => h.2) (fun ⟨p, _, h⟩ => h.elim)⟩
  | c :: s, m, e => by
    obtain ⟨b1, b2⟩ := stepF_bits m c.toNat P 0 (0, 0)
    rw [simF, simF_acc P last S R La hS hP hL s, and_ne]
    constructor
    · rintro (⟨rfl, p, h1, h2⟩ | ⟨q, h1, h2⟩)
      · rcases (b1 p).1 h1 with h | ⟨i, y, h3, h4, h5, h6⟩
        · simp at h
        · rw [Nat.zero_add] at h4
          subst h4
          refine .inr ⟨p, h5, ?_, .inl ⟨(hL p).1 h2, rfl⟩⟩
          rw [← (hP p y h3).1]; exact h6
      · rcases (b2 q).1 h1 with h | ⟨i, y, h3, h5, h6, h7⟩
        · simp at h
        · rw [Nat.zero_add] at h5
          refine .inr ⟨i, h5, ?_, .inr ⟨q, ((hP i y h3).2 q).1 h7, h2⟩⟩
          rw [← (hP i y h3).1]; exact h6
    · rintro (⟨h, _⟩ | ⟨p, h1, h2, h3⟩)
      · cases h
      · have hlt := hS p _ h2
        obtain ⟨y, hy⟩ : ∃ y, P[p]? = some y := ⟨P[p], List.getElem?_eq_getElem hlt⟩
        obtain ⟨hX, hN⟩ := hP p y hy
        rcases h3 with ⟨h4, h5⟩ | ⟨q, h4, h5⟩
        · refine .inl ⟨h5, p, (b1 p).2 (.inr ⟨p, y, hy, by omega, h1, by rw [hX]; exact h2⟩), (hL p).2 h4⟩
        · exact .inr ⟨q, (b2 q).2 (.inr ⟨p, y, hy, by rw [Nat.zero_add]; exact h1, by rw [hX]; exact h2, (hN q).2 h4⟩), h5⟩
/-- a pattern is all of a text just if it means it -/
theorem match_lang (x : Rx) (s : List UInt8) : matchF (glu x []).1 (glu x []).2 s = true ↔ Lang x s := by
  have r := rep x []
  have wf := gl_wf x 0
  have hlen : (glu x []).2.length = (gl x 0).m := r.len
  unfold matchF
  rw [simF_acc (glu x []).2 (glu x []).1.l (gl x 0).S (gl x 0).R (gl x 0).La (fun p c h => by rw [hlen]; exact (wf.S p c h).2) (fun p y hy => r.new p y (Nat.zero_le _) hy) r.l]
  constructor
  · rintro (⟨rfl, h⟩ | ⟨p, h1, h2⟩)
    · rw [r.e] at h
      exact (gl_e x 0).1 h
    · obtain ⟨u, v, h3, _, h4, h5⟩ := (gl_lang x 0 (fun v => v = []) s).1 ⟨p, (r.f p).1 h1, h2⟩
      subst h5
      rw [h3, List.append_nil]
      exact h4
  · intro h
    by_cases h0 : s = []
    · subst h0
      refine .inl ⟨rfl, ?_⟩
      rw [r.e]
      exact (gl_e x 0).2 h
    · obtain ⟨p, h1, h2⟩ := (gl_lang x 0 (fun v => v = []) s).2 ⟨s, [], by simp, h0, h, rfl⟩
      exact .inr ⟨p, (r.f p).2 h1, h2⟩
end Go.Proofs.YtnabfganecghkaaDoor
