/- What a pattern means, and that its places say so. -/
import Derived.Test.YtnabfganecghkaaDoorRxA
namespace Go.Proofs.YtnabfganecghkaaDoor
set_option linter.unusedVariables false

abbrev Bs := List UInt8
/-- so many of a language, one behind the other -/
inductive Many (L : Bs → Prop) : Bs → Prop
  | nil : Many L []
  | cons {u v : Bs} : L u → Many L v → Many L (u ++ v)
/-- what a pattern is all of -/
def Lang : Rx → Bs → Prop
  | .one X => fun s => ∃ c, s = [c] ∧ X c.toNat = true
  | .eps => fun s => s = []
  | .cat a b => fun s => ∃ u v, s = u ++ v ∧ Lang a u ∧ Lang b v
  | .alt a b => fun s => Lang a s ∨ Lang b s
  | .star a => Many (Lang a)
  | .plus a => fun s => ∃ u v, s = u ++ v ∧ Lang a u ∧ Many (Lang a) v
  | .opt a => fun s => s = [] ∨ Lang a s

/-- from place p on, all of a text, the last place told by La, what is behind it by K -/
def Acc (S : Nat → Nat → Bool) (R : Nat → Nat → Prop) (La : Nat → Prop) (K : Bs → Prop) : Bs → Nat → Prop
  | [], _ => False
  | c :: w, p => S p c.toNat = true ∧ ((La p ∧ K w) ∨ ∃ q, R p q ∧ Acc S R La K w q)

/-- pieces by places: first, last, which may follow which, whether it may be of nothing; from place n on, m of them -/
structure Gl where
  F : Nat → Prop
  La : Nat → Prop
  R : Nat → Nat → Prop
  S : Nat → Nat → Bool
  e : Bool
  m : Nat
def gl : Rx → Nat → Gl
  | .one X, n => ⟨fun p => p = n, fun p => p = n, fun _ _ => False, fun p c => decide (p = n) && X c, false, n + 1⟩
  | .eps, n => ⟨fun _ => False, fun _ => False, fun _ _ => False, fun _ _ => false, true, n⟩
  | .cat a b, n => let x := gl a n; let y := gl b x.m
    ⟨fun p => x.F p ∨ (x.e = true ∧ y.F p), fun p => y.La p ∨ (y.e = true ∧ x.La p), fun p q => x.R p q ∨ y.R p q ∨ (x.La p ∧ y.F q), fun p c => x.S p c || y.S p c, x.e && y.e, y.m⟩
  | .alt a b, n => let x := gl a n; let y := gl b x.m
    ⟨fun p => x.F p ∨ y.F p, fun p => x.La p ∨ y.La p, fun p q => x.R p q ∨ y.R p q, fun p c => x.S p c || y.S p c, x.e || y.e, y.m⟩
  | .star a, n => let x := gl a n; ⟨x.F, x.La, fun p q => x.R p q ∨ (x.La p ∧ x.F q), x.S, true, x.m⟩
  | .plus a, n => let x := gl a n; ⟨x.F, x.La, fun p q => x.R p q ∨ (x.La p ∧ x.F q), x.S, x.e, x.m⟩
  | .opt a, n => let x := gl a n; ⟨x.F, x.La, x.R, x.S, true, x.m⟩
/-- all that it speaks of lies from n to m -/
structure Wf (g : Gl) (n : Nat) : Prop where
  nm : n ≤ g.m
  F : ∀ p, g.F p → n ≤ p ∧ p < g.m
  La : ∀ p, g.La p → n ≤ p ∧ p < g.m
  R : ∀ p q, g.R p q → (n ≤ p ∧ p < g.m) ∧ n ≤ q ∧ q < g.m
  S : ∀ p c, g.S p c = true → n ≤ p ∧ p < g.m
theorem gl_wf : ∀ (x : Rx) (n : Nat), Wf (gl x n) n
  | .one X, n => by
    refine ⟨Nat.le_succ n, ?_, ?_, ?_, ?_⟩
    · rintro p rfl; exact ⟨Nat.le_refl _, Nat.lt_succ_self _⟩
    · rintro p rfl; exact ⟨Nat.le_refl _, Nat.lt_succ_self _⟩
    · rintro p q h; exact h.elim
    · intro p c h
      simp [gl] at h
      show n ≤ p ∧ p < n + 1
      omega
  | .eps, n => ⟨Nat.le_refl _, fun p h => h.elim, fun p h => h.elim, fun p q h => h.elim, fun p c h => by cases h⟩
  | .cat a b, n => by
    have ha := gl_wf a n
    have hb := gl_wf b (gl a n).m
    have h1 := ha.nm
    have h2 := hb.nm
    refine ⟨Nat.le_trans h1 h2, ?_, ?_, ?_, ?_⟩
    · rintro p (h | ⟨_, h⟩)
      · have := ha.F p h; exact ⟨this.1, Nat.lt_of_lt_of_le this.2 h2⟩
      · have := hb.F p h; exact ⟨Nat.le_trans h1 this.1, this.2⟩
    · rintro p (h | ⟨_, h⟩)
      · have := hb.La p h; exact ⟨Nat.le_trans h1 this.1, this.2⟩
      · have := ha.La p h; exact ⟨this.1, Nat.lt_of_lt_of_le this.2 h2⟩
    · rintro p q (h | h | ⟨h, h'⟩)
      · have := ha.R p q h; exact ⟨⟨this.1.1, Nat.lt_of_lt_of_le this.1.2 h2⟩, this.2.1, Nat.lt_of_lt_of_le this.2.2 h2⟩
      · have := hb.R p q h; exact ⟨⟨Nat.le_trans h1 this.1.1, this.1.2⟩, Nat.le_trans h1 this.2.1, this.2.2⟩
      · have := ha.La p h; have := hb.F q h'
        exact ⟨⟨by omega, Nat.lt_of_lt_of_le (ha.La p h).2 h2⟩, by omega, this.2⟩
    · intro p c h
      have h' : ((gl a n).S p c || (gl b (gl a n).m).S p c) = true := h
      rcases (Bool.or_eq_true _ _ ▸ h' : _ ∨ _) with h | h
      · have := ha.S p c h; exact ⟨this.1, Nat.lt_of_lt_of_le this.2 h2⟩
      · have := hb.S p c h; exact ⟨Nat.le_trans h1 this.1, this.2⟩
  | .alt a b, n => by
    have ha := gl_wf a n
    have hb := gl_wf b (gl a n).m
    have h1 := ha.nm
    have h2 := hb.nm
    refine ⟨Nat.le_trans h1 h2, ?_, ?_, ?_, ?_⟩
    · rintro p (h | h)
      · have := ha.F p h; exact ⟨this.1, Nat.lt_of_lt_of_le this.2 h2⟩
      · have := hb.F p h; exact ⟨Nat.le_trans h1 this.1, this.2⟩
    · rintro p (h | h)
      · have := ha.La p h; exact ⟨this.1, Nat.lt_of_lt_of_le this.2 h2⟩
      · have := hb.La p h; exact ⟨Nat.le_trans h1 this.1, this.2⟩
    · rintro p q (h | h)
      · have := ha.R p q h; exact ⟨⟨this.1.1, Nat.lt_of_lt_of_le this.1.2 h2⟩, this.2.1, Nat.lt_of_lt_of_le this.2.2 h2⟩
      · have := hb.R p q h; exact ⟨⟨Nat.le_trans h1 this.1.1, this.1.2⟩, Nat.le_trans h1 this.2.1, this.2.2⟩
    · intro p c h
      have h' : ((gl a n).S p c || (gl b (gl a n).m).S p c) = true := h
      rcases (Bool.or_eq_true _ _ ▸ h' : _ ∨ _) with h | h
      · have := ha.S p c h; exact ⟨this.1, Nat.lt_of_lt_of_le this.2 h2⟩
      · have := hb.S p c h; exact ⟨Nat.le_trans h1 this.1, this.2⟩
  | .star a, n => by
    have ha := gl_wf a n
    refine ⟨ha.nm, ha.F, ha.La, ?_, ha.S⟩
    rintro p q (h | ⟨h, h'⟩)
    · exact ha.R p q h
    · exact ⟨ha.La p h, ha.F q h'⟩
  | .plus a, n => by
    have ha := gl_wf a n
    refine ⟨ha.nm, ha.F, ha.La, ?_, ha.S⟩
    rintro p q (h | ⟨h, h'⟩)
    · exact ha.R p q h
    · exact ⟨ha.La p h, ha.F q h'⟩
  | .opt a, n => by
    have ha := gl_wf a n
    exact ⟨ha.nm, ha.F, ha.La, ha.R, ha.S⟩

/-- the empty text -/
theorem gl_e : ∀ (x : Rx) (n : Nat), ((gl x n).e = true ↔ Lang x [])
  | .one X, n => by simp [gl, Lang]
  | .eps, n => by simp [gl, Lang]
  | .cat a b, n => by
    have ha := gl_e a n
    have hb := gl_e b (gl a n).m
    show ((gl a n).e && (gl b (gl a n).m).e) = true ↔ ∃ u v, [] = u ++ v ∧ Lang a u ∧ Lang b v
    rw [Bool.and_eq_true, ha, hb]
    constructor
    · rintro ⟨h1, h2⟩; exact ⟨[], [], rfl, h1, h2⟩
    · rintro ⟨u, v, h, h1, h2⟩
      have h' := h.symm
      rw [List.append_eq_nil_iff] at h'
      obtain ⟨rfl, rfl⟩ := h'
      exact ⟨h1, h2⟩
  | .alt a b, n => by
    have ha := gl_e a n
    have hb := gl_e b (gl a n).m
    show ((gl a n).e || (gl b (gl a n).m).e) = true ↔ Lang a [] ∨ Lang b []
    rw [Bool.or_eq_true, ha, hb]
  | .star a, n => by
    show true = true ↔ Many (Lang a) []
    exact ⟨fun _ => .nil, fun _ => rfl⟩
  | .plus a, n => by
    have ha := gl_e a n
    show (gl a n).e = true ↔ ∃ u v, [] = u ++ v ∧ Lang a u ∧ Many (Lang a) v
    rw [ha]
    constructor
    · intro h; exact ⟨[], [], rfl, h, .nil⟩
    · rintro ⟨u, v, h, h1, h2⟩
      have h' := h.symm
      rw [List.append_eq_nil_iff] at h'
      obtain ⟨rfl, rfl⟩ := h'
      exact h1
  | .opt a, n => by
    show true = true ↔ [] = [] ∨ Lang a []
    exact ⟨fun _ => .inl rfl, fun _ => rfl⟩

/-- from a piece's places on -/
def From (g : Gl) (K : Bs → Prop) (w : Bs) : Prop := ∃ p, g.F p ∧ Acc g.S g.R g.La K w p
/-- some of a language, not nothing, and then K -/
def Then (L : Bs → Prop) (K : Bs → Prop) (w : Bs) : Prop := ∃ u v, w = u ++ v ∧ u ≠ [] ∧ L u ∧ K v
theorem acc_nil {S : Nat → Nat → Bool} {R : Nat → Nat → Prop} {La : Nat → Prop} {K : Bs → Prop} {p : Nat} : ¬ Acc S R La K [] p := fun h => h
/-- what is behind may be turned for what says the same of all shorter texts -/
theorem acc_congr {S : Nat → Nat → Bool} {R : Nat → Nat → Prop} {La : Nat → Prop} {K K' : Bs → Prop} : ∀ (w : Bs) (p : Nat), (∀ v, v.length < w.length → (K v ↔ K' v)) → (Acc S R La K w p ↔ Acc S R La K' w p)
  | [], p, _ => Iff.rfl
  | c :: w, p, h => by
    have ih := fun q => acc_congr (S := S) (R := R) (La := La) (K := K) (K' := K') w q (fun v hv => h v (by simp; omega))
    have hk := h w (by simp)
    unfold Acc
    rw [hk]
    constructor
    · rintro ⟨h1, h2 | ⟨q, h2, h3⟩⟩
      · exact ⟨h1, .inl h2⟩
      · exact ⟨h1, .inr ⟨q, h2, (ih q).1 h3⟩⟩
    · rintro ⟨h1, h2 | ⟨q, h2, h3⟩⟩
      · exact ⟨h1, .inl h2⟩
      · exact ⟨h1, .inr ⟨q, h2, (ih q).2 h3⟩⟩
theorem many_split {L : Bs → Prop} {u : Bs} (h : Many L u) : u ≠ [] → ∃ a b, u = a ++ b ∧ a ≠ [] ∧ L a ∧ Many L b := by
  induction h with
  | nil => intro h; exact absurd rfl h
  | @cons a b ha hb ih =>
    intro hne
    by_cases h0 : a = []
    · subst h0
      exact ih (by simpa using hne)
    · exact ⟨a, b, rfl, h0, ha, hb⟩
theorem many_plus {L : Bs → Prop} {u : Bs} (hne : u ≠ []) : (∃ a b, u = a ++ b ∧ L a ∧ Many L b) ↔ Many L u := by
  constructor
  · rintro ⟨a, b, rfl, ha, hb⟩
    exact .cons ha hb
  · intro h
    obtain ⟨a, b, h1, _, h2, h3⟩ := many_split h hne
    exact ⟨a, b, h1, h2, h3⟩
/-- the places of a piece that may go round -/
theorem acc_round {S : Nat → Nat → Bool} {R : Nat → Nat → Prop} {F La : Nat → Prop} {K : Bs → Prop} : ∀ (w : Bs) (p : Nat),
    Acc S (fun p q => R p q ∨ (La p ∧ F q)) La K w p ↔ Acc S R La (fun v => K v ∨ ∃ q, F q ∧ Acc S (fun p q => R p q ∨ (La p ∧ F q)) La K v q) w p
  | [], p => Iff.rfl
  | c :: w, p => by
    have ih := fun q => acc_round (S := S) (R := R) (F := F) (La := La) (K := K) w q
    rw [Acc, Acc]
    constructor
    · rintro ⟨h1, ⟨h2, h3⟩ | ⟨q, h2 | ⟨h2, h4⟩, h3⟩⟩
      · exact ⟨h1, .inl ⟨h2, .inl h3⟩⟩
      · exact ⟨h1, .inr ⟨q, h2, (ih q).1 h3⟩⟩
      · exact ⟨h1, .inl ⟨h2, .inr ⟨q, h4, h3⟩⟩⟩
    · rintro ⟨h1, ⟨h2, h3 | ⟨q, h4, h3⟩⟩ | ⟨q, h2, h3⟩⟩
      · exact ⟨h1, .inl ⟨h2, h3⟩⟩
      · exact ⟨h1, .inr ⟨q, .inr ⟨h2, h4⟩, h3⟩⟩
      · exact ⟨h1, .inr ⟨q, .inl h2, (ih q).2 h3⟩⟩
theorem from_many {g : Gl} {L : Bs → Prop} (ih : ∀ K w, From g K w ↔ Then L K w) (K : Bs → Prop) (G : Gl) (hG : G = ⟨g.F, g.La, fun p q => g.R p q ∨ (g.La p ∧ g.F q), g.S, G.e, G.m⟩) :
    ∀ (n : Nat) (w : Bs), w.length ≤ n → (From G K w ↔ Then (Many L) K w) := by
  have hF : G.F = g.F := by rw [hG]
  have hL : G.La = g.La := by rw [hG]
  have hR : G.R = fun p q => g.R p q ∨ (g.La p ∧ g.F q) := by rw [hG]
  have hS : G.S = g.S := by rw [hG]
  have key : ∀ w, From G K w ↔ Then L (fun v => K v ∨ From G K v) w := by
    intro w
    rw [← ih]
    unfold From
    rw [hF, hL, hR, hS]
    constructor
    · rintro ⟨p, h1, h2⟩
      exact ⟨p, h1, (acc_round w p).1 h2⟩
    · rintro ⟨p, h1, h2⟩
      exact ⟨p, h1, (acc_round w p).2 h2⟩
  intro n
  induction n with
  | zero =>
    intro w hw
    have h0 : w = [] := List.eq_nil_of_length_eq_zero (by omega)
    subst h0
    constructor
    · rintro ⟨p, _, h⟩
      exact h.elim
    · rintro ⟨u, v, h, hne, _⟩
      have h' := h.symm
      rw [List.append_eq_nil_iff] at h'
      exact absurd h'.1 hne
  | succ n hn =>
    intro w hw
    rw [key]
    constructor
    · rintro ⟨u, v, rfl, hne, hu, hv | hv⟩
      · exact ⟨u, v, rfl, hne, by have := Many.cons hu (Many.nil (L := L)); simpa using this, hv⟩
      · have hl : v.length ≤ n := by
          have : 0 < u.length := by cases u with
            | nil => exact absurd rfl hne
            | cons a r => simp
          simp at hw
          omega
        obtain ⟨u2, v2, rfl, hne2, hu2, hv2⟩ := (hn v hl).1 hv
        exact ⟨u ++ u2, v2, by simp, by simp [hne], .cons hu hu2, hv2⟩
    · rintro ⟨u, v, rfl, hne, hu, hv⟩
      obtain ⟨a, b, rfl, ha, hla, hb⟩ := many_split hu hne
      refine ⟨a, b ++ v, by simp, ha, hla, ?_⟩
      by_cases hb0 : b = []
      · subst hb0
        exact .inl (by simpa using hv)
      · right
        have hl : (b ++ v).length ≤ n := by
          have : 0 < a.length := by cases a with
            | nil => exact absurd rfl ha
            | cons a r => simp
          simp at hw ⊢
          omega
        exact (hn _ hl).2 ⟨b, v, rfl, hb0, hb, hv⟩
theorem then_congr {L L' K K' : Bs → Prop} {w : Bs} (hL : ∀ u, u ≠ [] → (L u ↔ L' u)) (hK : ∀ v, K v ↔ K' v) : Then L K w ↔ Then L' K' w := by
  constructor
  · rintro ⟨u, v, h1, h2, h3, h4⟩; exact ⟨u, v, h1, h2, (hL u h2).1 h3, (hK v).1 h4⟩
  · rintro ⟨u, v, h1, h2, h3, h4⟩; exact ⟨u, v, h1, h2, (hL u h2).2 h3, (hK v).2 h4⟩
/-- two pieces side by side: at the upper one's places only it speaks -/
theorem acc_up {x y G : Gl} {n : Nat} {K : Bs → Prop} (hx : Wf x n) (hy : Wf y x.m)
    (hS : ∀ p c, x.m ≤ p → G.S p c = y.S p c) (hL : ∀ p, x.m ≤ p → (G.La p ↔ y.La p)) (hR : ∀ p q, x.m ≤ p → (G.R p q ↔ y.R p q)) : ∀ (w : Bs) (p : Nat), x.m ≤ p → (Acc G.S G.R G.La K w p ↔ Acc y.S y.R y.La K w p)
  | [], p, _ => Iff.rfl
  | c :: w, p, hp => by
    have ih := fun q hq => acc_up (x := x) (y := y) (G := G) (K := K) hx hy hS hL hR w q hq
    rw [Acc, Acc, hS p _ hp, hL p hp]
    constructor
    · rintro ⟨h1, h2 | ⟨q, h2, h3⟩⟩
      · exact ⟨h1, .inl h2⟩
      · have h2' := (hR p q hp).1 h2
        exact ⟨h1, .inr ⟨q, h2', (ih q (hy.R p q h2').2.1).1 h3⟩⟩
    · rintro ⟨h1, h2 | ⟨q, h2, h3⟩⟩
      · exact ⟨h1, .inl h2⟩
      · exact ⟨h1, .inr ⟨q, (hR p q hp).2 h2, (ih q (hy.R p q h2).2.1).2 h3⟩⟩
/-- at the lower one's places: what is behind it is K' -/
theorem acc_low {x G : Gl} {n : Nat} {K K' : Bs → Prop} (hx : Wf x n) (hS : ∀ p c, p < x.m → G.S p c = x.S p c)
    (hstep : ∀ p w, p < x.m → (((G.La p ∧ K w) ∨ ∃ q, G.R p q ∧ Acc G.S G.R G.La K w q) ↔ ((x.La p ∧ K' w) ∨ ∃ q, x.R p q ∧ Acc G.S G.R G.La K w q))) : ∀ (w : Bs) (p : Nat), p < x.m → (Acc G.S G.R G.La K w p ↔ Acc x.S x.R x.La K' w p)
  | [], p, _ => Iff.rfl
  | c :: w, p, hp => by
    have ih := fun q hq => acc_low (x := x) (G := G) (K := K) (K' := K') hx hS hstep w q hq
    rw [Acc, Acc, hS p _ hp, hstep p w hp]
    constructor
    · rintro ⟨h1, h2 | ⟨q, h2, h3⟩⟩
      · exact ⟨h1, .inl h2⟩
      · exact ⟨h1, .inr ⟨q, h2, (ih q (hx.R p q h2).2.2).1 h3⟩⟩
    · rintro ⟨h1, h2 | ⟨q, h2, h3⟩⟩
      · exact ⟨h1, .inl h2⟩
      · exact ⟨h1, .inr ⟨q, h2, (ih q (hx.R p q h2).2.2).2 h3⟩⟩
/-- the places say what the pattern means -/
theorem gl_lang : ∀ (x : Rx) (n : Nat) (K : Bs → Prop) (w : Bs), From (gl x n) K w ↔ Then (Lang x) K w
  | .one X, n, K, w => by
    constructor
    · rintro ⟨p, rfl, h⟩
      cases w with
      | nil => exact h.elim
      | cons c w =>
        obtain ⟨h1, ⟨_, h2⟩ | ⟨q, h2, _⟩⟩ := h
        · refine ⟨[c], w, rfl, by simp, ⟨c, rfl, ?_⟩, h2⟩
          simpa [gl] using h1
        · exact h2.elim
    · rintro ⟨u, v, rfl, _, ⟨c, rfl, hc⟩, hv⟩
      refine ⟨n, rfl, ?_, .inl ⟨rfl, hv⟩⟩
      simp [gl, hc]
  | .eps, n, K, w => by
    constructor
    · rintro ⟨p, h, _⟩; exact h.elim
    · rintro ⟨u, v, _, hne, h, _⟩; exact absurd h hne
  | .cat a b, n, K, w => by
    have hx := gl_wf a n
    have hy := gl_wf b (gl a n).m
    have iha := gl_lang a n
    have ihb := gl_lang b (gl a n).m
    have ea := gl_e a n
    have eb := gl_e b (gl a n).m
    obtain ⟨x, hxe⟩ : ∃ x, gl a n = x := ⟨_, rfl⟩
    rw [hxe] at hx hy iha ihb ea eb
    obtain ⟨y, hye⟩ : ∃ y, gl b x.m = y := ⟨_, rfl⟩
    rw [hye] at hy ihb eb
    obtain ⟨G, hG⟩ : ∃ G, gl (.cat a b) n = G := ⟨_, rfl⟩
    have gF : ∀ p, G.F p ↔ x.F p ∨ (x.e = true ∧ y.F p) := fun p => by rw [← hG, gl, hxe, hye]
    have gL : ∀ p, G.La p ↔ y.La p ∨ (y.e = true ∧ x.La p) := fun p => by rw [← hG, gl, hxe, hye]
    have gR : ∀ p q, G.R p q ↔ x.R p q ∨ y.R p q ∨ (x.La p ∧ y.F q) := fun p q => by rw [← hG, gl, hxe, hye]
    have gS : ∀ p c, G.S p c = (x.S p c || y.S p c) := fun p c => by rw [← hG, gl, hxe, hye]
    rw [hG]
    have nS : ∀ p c, x.m ≤ p → x.S p c = false := fun p c hp => by
      cases h : x.S p c with
      | false => rfl
      | true => have := hx.S p c h; omega
    have nS2 : ∀ p c, p < x.m → y.S p c = false := fun p c hp => by
      cases h : y.S p c with
      | false => rfl
      | true => have := hy.S p c h; omega
    have up : ∀ w p, x.m ≤ p → (Acc G.S G.R G.La K w p ↔ Acc y.S y.R y.La K w p) := acc_up hx hy (fun p c hp => by rw [gS, nS p c hp, Bool.false_or]) (fun p hp => by
      rw [gL]
      constructor
      · rintro (h | ⟨_, h⟩)
        · exact h
        · have := hx.La p h; omega
      · exact .inl) (fun p q hp => by
      rw [gR]
      constructor
      · rintro (h | h | ⟨h, _⟩)
        · have := hx.R p q h; omega
        · exact h
        · have := hx.La p h; omega
      · exact fun h => .inr (.inl h))
    have low : ∀ w p, p < x.m → (Acc G.S G.R G.La K w p ↔ Acc x.S x.R x.La (fun v => (y.e = true ∧ K v) ∨ From y K v) w p) := acc_low hx (fun p c hp => by rw [gS, nS2 p c hp, Bool.or_false]) (fun p w hp => by
      constructor
      · rintro (⟨h1, h2⟩ | ⟨q, h1, h2⟩)
        · rcases (gL p).1 h1 with h | ⟨h, h'⟩
          · have := hy.La p h; omega
          · exact .inl ⟨h', .inl ⟨h, h2⟩⟩
        · rcases (gR p q).1 h1 with h | h | ⟨h, h'⟩
          · exact .inr ⟨q, h, h2⟩
          · have := hy.R p q h; omega
          · exact .inl ⟨h, .inr ⟨q, h', (up w q (hy.F q h').1).1 h2⟩⟩
      · rintro (⟨h1, ⟨h2, h3⟩ | ⟨q, h2, h3⟩⟩ | ⟨q, h1, h2⟩)
        · exact .inl ⟨(gL p).2 (.inr ⟨h2, h1⟩), h3⟩
        · exact .inr ⟨q, (gR p q).2 (.inr (.inr ⟨h1, h2⟩)), (up w q (hy.F q h2).1).2 h3⟩
        · exact .inr ⟨q, (gR p q).2 (.inl h1), h2⟩)
    have e1 : From G K w ↔ From x (fun v => (y.e = true ∧ K v) ∨ From y K v) w ∨ (x.e = true ∧ From y K w) := by
      constructor
      · rintro ⟨p, h1, h2⟩
        rcases (gF p).1 h1 with h | ⟨h, h'⟩
        · exact .inl ⟨p, h, (low w p (hx.F p h).2).1 h2⟩
        · exact .inr ⟨h, p, h', (up w p (hy.F p h').1).1 h2⟩
      · rintro (⟨p, h1, h2⟩ | ⟨h, p, h1, h2⟩)
        · exact ⟨p, (gF p).2 (.inl h1), (low w p (hx.F p h1).2).2 h2⟩
        · exact ⟨p, (gF p).2 (.inr ⟨h, h1⟩), (up w p (hy.F p h1).1).2 h2⟩
    rw [e1, iha, ea, ihb]
    constructor
    · rintro (⟨u, v, rfl, hne, hu, ⟨h1, h2⟩ | h1⟩ | ⟨h1, u, v, rfl, hne, hu, hv⟩)
      · exact ⟨u, v, rfl, hne, ⟨u, [], by simp, hu, eb.1 h1⟩, h2⟩
      · obtain ⟨u2, v2, rfl, hne2, hu2, hv2⟩ := (ihb K v).1 h1
        exact ⟨u ++ u2, v2, by simp, by simp [hne], ⟨u, u2, rfl, hu, hu2⟩, hv2⟩
      · exact ⟨u, v, rfl, hne, ⟨[], u, rfl, h1, hu⟩, hv⟩
    · rintro ⟨u, v, rfl, hne, ⟨u1, u2, rfl, h1, h2⟩, hv⟩
      by_cases h0 : u1 = []
      · subst h0
        exact .inr ⟨h1, u2, v, rfl, by simpa using hne, h2, hv⟩
      · by_cases h00 : u2 = []
        · subst h00
          exact .inl ⟨u1, v, by simp, h0, h1, .inl ⟨eb.2 h2, hv⟩⟩
        · exact .inl ⟨u1, u2 ++ v, by simp, h0, h1, .inr ((ihb K _).2 ⟨u2, v, rfl, h00, h2, hv⟩)⟩
  | .alt a b, n, K, w => by
    have hx := gl_wf a n
    have hy := gl_wf b (gl a n).m
    have iha := gl_lang a n
    have ihb := gl_lang b (gl a n).m
    obtain ⟨x, hxe⟩ : ∃ x, gl a n = x := ⟨_, rfl⟩
    rw [hxe] at hx hy iha ihb
    obtain ⟨y, hye⟩ : ∃ y, gl b x.m = y := ⟨_, rfl⟩
    rw [hye] at hy ihb
    obtain ⟨G, hG⟩ : ∃ G, gl (.alt a b) n = G := ⟨_, rfl⟩
    have gF : ∀ p, G.F p ↔ x.F p ∨ y.F p := fun p => by rw [← hG, gl, hxe, hye]
    have gL : ∀ p, G.La p ↔ x.La p ∨ y.La p := fun p => by rw [← hG, gl, hxe, hye]
    have gR : ∀ p q, G.R p q ↔ x.R p q ∨ y.R p q := fun p q => by rw [← hG, gl, hxe, hye]
    have gS : ∀ p c, G.S p c = (x.S p c || y.S p c) := fun p c => by rw [← hG, gl, hxe, hye]
    rw [hG]
    have nS : ∀ p c, x.m ≤ p → x.S p c = false := fun p c hp => by
      cases h : x.S p c with
      | false => rfl
      | true => have := hx.S p c h; omega
    have nS2 : ∀ p c, p < x.m → y.S p c = false := fun p c hp => by
      cases h : y.S p c with
      | false => rfl
      | true => have := hy.S p c h; omega
    have up : ∀ w p, x.m ≤ p → (Acc G.S G.R G.La K w p ↔ Acc y.S y.R y.La K w p) := acc_up hx hy (fun p c hp => by rw [gS, nS p c hp, Bool.false_or]) (fun p hp => by
      rw [gL]
      constructor
      · rintro (h | h)
        · have := hx.La p h; omega
        · exact h
      · exact .inr) (fun p q hp => by
      rw [gR]
      constructor
      · rintro (h | h)
        · have := hx.R p q h; omega
        · exact h
      · exact .inr)
    have low : ∀ w p, p < x.m → (Acc G.S G.R G.La K w p ↔ Acc x.S x.R x.La K w p) := acc_low hx (fun p c hp => by rw [gS, nS2 p c hp, Bool.or_false]) (fun p w hp => by
      constructor
      · rintro (⟨h1, h2⟩ | ⟨q, h1, h2⟩)
        · rcases (gL p).1 h1 with h | h
          · exact .inl ⟨h, h2⟩
          · have := hy.La p h; omega
        · rcases (gR p q).1 h1 with h | h
          · exact .inr ⟨q, h, h2⟩
          · have := hy.R p q h; omega
      · rintro (⟨h1, h2⟩ | ⟨q, h1, h2⟩)
        · exact .inl ⟨(gL p).2 (.inl h1), h2⟩
        · exact .inr ⟨q, (gR p q).2 (.inl h1), h2⟩)
    have e1 : From G K w ↔ From x K w ∨ From y K w := by
      constructor
      · rintro ⟨p, h1, h2⟩
        rcases (gF p).1 h1 with h | h
        · exact .inl ⟨p, h, (low w p (hx.F p h).2).1 h2⟩
        · exact .inr ⟨p, h, (up w p (hy.F p h).1).1 h2⟩
      · rintro (⟨p, h1, h2⟩ | ⟨p, h1, h2⟩)
        · exact ⟨p, (gF p).2 (.inl h1), (low w p (hx.F p h1).2).2 h2⟩
        · exact ⟨p, (gF p).2 (.inr h1), (up w p (hy.F p h1).1).2 h2⟩
    rw [e1, iha, ihb]
    constructor
    · rintro (⟨u, v, h1, h2, h3, h4⟩ | ⟨u, v, h1, h2, h3, h4⟩)
      · exact ⟨u, v, h1, h2, .inl h3, h4⟩
      · exact ⟨u, v, h1, h2, .inr h3, h4⟩
    · rintro ⟨u, v, h1, h2, h3 | h3, h4⟩
      · exact .inl ⟨u, v, h1, h2, h3, h4⟩
      · exact .inr ⟨u, v, h1, h2, h3, h4⟩
  | .star a, n, K, w => from_many (gl_lang a n) K (gl (.star a) n) rfl w.length w (Nat.le_refl _)
  | .plus a, n, K, w => (from_many (gl_lang a n) K (gl (.plus a) n) rfl w.length w (Nat.le_refl _)).trans (then_congr (fun u hu => (many_plus hu).symm) (fun v => Iff.rfl))
  | .opt a, n, K, w => (gl_lang a n K w).trans (then_congr (fun u hu => ⟨fun h => .inr h, fun h => h.elim (fun h => absurd h hu) id⟩) (fun v => Iff.rfl))
end Go.Proofs.YtnabfganecghkaaDoor
