/- Reading patterns, plainly: with more behind, at another depth, with other room. -/
import Derived.Test.YtfnmbembclgknaaRxP
import Derived.Test.YtfnmbembclgknaaRxU
namespace Go.Proofs.Ytfnmbembclgknaa
set_option linter.unusedVariables false

theorem signs_ext (t : List UInt8) : ∀ (q : List UInt8) (y : Rx), ((signs y q).2 = [] → hd 41 t = true) → signs y (q ++ t) = ((signs y q).1, (signs y q).2 ++ t)
  | [], y, h => by
    have ht := h rfl
    cases t with
    | nil => cases ht
    | cons a r =>
      have ha : a = 41 := by simpa [hd] using ht
      subst ha
      rfl
  | c :: r, y, h => by
    rw [List.cons_append, signs, signs]
    rw [signs] at h
    split
    · rename_i hc
      rw [if_pos hc] at h
      exact signs_ext t r _ h
    split
    · rename_i hc hc2
      rw [if_neg hc, if_pos hc2] at h
      exact signs_ext t r _ h
    split
    · rename_i hc hc2 hc3
      rw [if_neg hc, if_neg hc2, if_pos hc3] at h
      exact signs_ext t r _ h
    · rfl
theorem memF_ext {l q : List UInt8} {c : UInt8} (t : List UInt8) (h : memF l = some (c, q)) : memF (l ++ t) = some (c, q ++ t) := by
  cases l with
  | nil => cases h
  | cons a r =>
    by_cases ha : a = 92
    · cases r with
      | nil => simp [memF, ha] at h
      | cons b s =>
        simp [memF, ha] at h
        simp [memF, ha, h.1, h.2]
    · simp [memF, ha] at h
      obtain ⟨rfl, rfl⟩ := h
      simp [memF, ha]
theorem toF_ext {a b : UInt8} {l q : List UInt8} (t : List UInt8) (hq : q ≠ []) (h : toF a l = some (b, q)) : toF a (l ++ t) = some (b, q ++ t) := by
  cases l with
  | nil =>
    simp [toF] at h
    exact absurd h.2.symm (by simpa using hq)
  | cons c r =>
    by_cases hc : c = 45
    · simp only [toF, hc, if_true] at h
      simp only [List.cons_append, toF, hc, if_true]
      exact memF_ext t h
    · simp [toF, hc] at h
      simp [toF, hc, h.1, ← h.2]
theorem itemF_ext {X Y : Nat → Bool} {l q : List UInt8} (t : List UInt8) (hq : q ≠ []) (h : itemF X l = some (Y, q)) : itemF X (l ++ t) = some (Y, q ++ t) := by
  unfold itemF at h ⊢
  cases hm : memF l with
  | none => rw [hm] at h; cases h
  | some m =>
    obtain ⟨a, l1⟩ := m
    rw [hm] at h
    rw [memF_ext t hm]
    simp only at h ⊢
    cases ht : toF a l1 with
    | none => rw [ht] at h; cases h
    | some m2 =>
      obtain ⟨b, l2⟩ := m2
      rw [ht] at h
      simp only at h
      split at h
      · cases h
      · rename_i hba
        simp at h
        obtain ⟨h1, h2⟩ := h
        subst h2
        rw [toF_ext t hq ht]
        simp only
        rw [if_neg hba, h1]
theorem clsF_mono : ∀ (n m : Nat) (X Y : Nat → Bool) (l q : List UInt8), n ≤ m → clsF n X l = some (Y, q) → clsF m X l = some (Y, q)
  | 0, m, X, Y, l, q, _, h => by cases h
  | n + 1, 0, X, Y, l, q, hm, h => by omega
  | n + 1, m + 1, X, Y, l, q, hm, h => by
    unfold clsF at h ⊢
    split at h
    · rename_i hh
      rw [if_pos hh]
      exact h
    · rename_i hh
      rw [if_neg hh]
      cases hi : itemF X l with
      | none => rw [hi] at h; cases h
      | some z =>
        obtain ⟨Z, q2⟩ := z
        rw [hi] at h
        exact clsF_mono n m Z Y q2 q (by omega) h
theorem clsF_nil (n : Nat) (X : Nat → Bool) : clsF n X [] = none := by
  cases n with
  | zero => rfl
  | succ n => rfl
theorem clsF_ext (t : List UInt8) : ∀ (n : Nat) (X Y : Nat → Bool) (l q : List UInt8), clsF n X l = some (Y, q) → clsF n X (l ++ t) = some (Y, q ++ t)
  | 0, X, Y, l, q, h => by cases h
  | n + 1, X, Y, l, q, h => by
    unfold clsF at h ⊢
    cases l with
    | nil => simp [hd, itemF, memF] at h
    | cons a r =>
      have e : hd 93 (a :: r ++ t) = hd 93 (a :: r) := rfl
      rw [e]
      split at h
      · rename_i hh
        rw [if_pos hh]
        simp at h ⊢
        exact ⟨h.1, by rw [h.2]⟩
      · rename_i hh
        rw [if_neg hh]
        cases hi : itemF X (a :: r) with
        | none => rw [hi] at h; cases h
        | some z =>
          obtain ⟨Z, q2⟩ := z
          rw [hi] at h
          simp only at h
          have hq2 : q2 ≠ [] := fun h0 => by rw [h0, clsF_nil] at h; cases h
          rw [itemF_ext t hq2 hi]
          exact clsF_ext t n Z Y q2 q h
theorem insF_ext {X : Nat → Bool} {l q : List UInt8} (t : List UInt8) (h : insF l = some (X, q)) : insF (l ++ t) = some (X, q ++ t) := by
  unfold insF at h ⊢
  cases hi : itemF noX l with
  | none => rw [hi] at h; cases h
  | some z =>
    obtain ⟨Z, q2⟩ := z
    rw [hi] at h
    simp only at h
    have hq2 : q2 ≠ [] := fun h0 => by rw [h0, clsF_nil] at h; cases h
    rw [itemF_ext t hq2 hi]
    exact clsF_mono _ _ _ _ _ _ (by simp) (clsF_ext t _ _ _ _ _ h)
theorem insF_nil : insF [] = none := rfl
theorem classF_ext {X : Nat → Bool} {l q : List UInt8} (t : List UInt8) (h : classF l = some (X, q)) : classF (l ++ t) = some (X, q ++ t) := by
  cases l with
  | nil => cases h
  | cons a r =>
    unfold classF at h ⊢
    have e : hd 94 (a :: r ++ t) = hd 94 (a :: r) := rfl
    rw [e]
    split at h
    · rename_i hh
      rw [if_pos hh]
      rw [show (a :: r).drop 1 = r from rfl] at h
      rw [show (a :: r ++ t).drop 1 = r ++ t from rfl]
      cases hi : insF r with
      | none => rw [hi] at h; cases h
      | some z =>
        obtain ⟨Z, q2⟩ := z
        rw [hi] at h
        rw [insF_ext t hi]
        simp at h ⊢
        exact ⟨h.1, by rw [h.2]⟩
    · rename_i hh
      rw [if_neg hh]
      exact insF_ext t h
theorem atomF_ext {c : UInt8} {r q : List UInt8} {X : Nat → Bool} (t : List UInt8) (h : atomF c r = some (X, q)) : atomF c (r ++ t) = some (X, q ++ t) := by
  unfold atomF at h ⊢
  split at h
  · rename_i hk
    rw [if_pos hk]
    cases r with
    | nil => cases h
    | cons a s =>
      simp at h ⊢
      exact ⟨h.1, by rw [h.2]⟩
  rename_i hk
  rw [if_neg hk]
  split at h
  · rename_i hk
    rw [if_pos hk]
    simp at h ⊢
    exact ⟨h.1, by rw [h.2]⟩
  rename_i hk
  rw [if_neg hk]
  split at h
  · rename_i hk
    rw [if_pos hk]
    simp at h ⊢
    exact ⟨h.1, by rw [h.2]⟩
  rename_i hk
  rw [if_neg hk]
  split at h
  · rename_i hk
    rw [if_pos hk]
    exact classF_ext t h
  · cases h
/-- what stands in brackets, and the bracket: more behind changes nothing -/
theorem bareF_ext {f g : List UInt8 → Res} {d e : Nat} {c : UInt8} {r q : List UInt8} {y : Rx} (t : List UInt8) (hde : e ≤ d)
    (hfg : ∀ y q, q ≠ [] → f r = .ok y q → g (r ++ t) = .ok y (q ++ t)) (h : bareF f d c r = .ok y q) : bareF g e c (r ++ t) = .ok y (q ++ t) := by
  unfold bareF at h ⊢
  split at h
  · rename_i hk
    rw [if_pos hk]
    unfold innF at h ⊢
    split at h
    · cases h
    · rename_i h8
      rw [if_neg (by omega)]
      cases hf : f r with
      | err e => rw [hf] at h; cases h
      | ok y2 q2 =>
        rw [hf] at h
        simp only at h
        split at h
        · rename_i h41
          have hq2 : q2 ≠ [] := fun h0 => by rw [h0] at h41; cases h41
          rw [hfg y2 q2 hq2 hf]
          simp only
          obtain ⟨a, s, rfl⟩ : ∃ a s, q2 = a :: s := by
            cases q2 with
            | nil => exact absurd rfl hq2
            | cons a s => exact ⟨a, s, rfl⟩
          have e1 : hd 41 (a :: s ++ t) = hd 41 (a :: s) := rfl
          rw [e1, if_pos h41]
          injection h with h1 h2
          rw [h1, ← h2]
          rfl
        · cases h
  · rename_i hk
    rw [if_neg hk]
    cases ha : atomF c r with
    | none => rw [ha] at h; cases h
    | some z =>
      obtain ⟨X, q2⟩ := z
      rw [ha] at h
      rw [atomF_ext t ha]
      injection h with h1 h2
      rw [← h1, ← h2]
/-- with more behind, at a depth that is no deeper, with room enough -/
theorem patF_ext (t : List UInt8) : ∀ (n m d e : Nat) (o : Option Rx) (x y : Rx) (l q : List UInt8), e ≤ d → (l ++ t).length < m → patF n d o x l = .ok y q → (q = [] → t = [] ∨ hd 41 t = true) → patF m e o x (l ++ t) = .ok y (q ++ t)
  | 0, m, d, e, o, x, y, l, q, _, _, h, _ => by cases h
  | n + 1, 0, d, e, o, x, y, l, q, _, hm, h, _ => by omega
  | n + 1, m + 1, d, e, o, x, y, [], q, hde, hm, h, hq => by
    rw [patF_end (.inl rfl)] at h
    injection h with h1 h2
    subst h1 h2
    rw [List.nil_append]
    exact patF_end (hq rfl)
  | n + 1, m + 1, d, e, o, x, y, a :: r, q, hde, hm, h, hq => by
    by_cases h1 : a = 41
    · subst h1
      rw [patF_end (.inr rfl)] at h
      injection h with h1 h2
      subst h1 h2
      exact patF_end (.inr rfl)
    by_cases h2 : a = 124
    · subst h2
      rw [patF_bar rfl] at h
      rw [List.cons_append, patF_bar rfl]
      exact patF_ext t n m d e _ _ _ _ _ hde (by simp at hm ⊢; omega) h hq
    rw [patF_on h1 h2] at h
    rw [List.cons_append, patF_on h1 h2]
    cases hb : bareF (fun r => patF n (d + 1) none .eps r) d a r with
    | err e => rw [hb] at h; cases h
    | ok z q2 =>
      rw [hb] at h
      have h' : patF n d o (.cat x (signs z q2).1) (signs z q2).2 = .ok y q := h
      have hq2 : (signs z q2).2 = [] → t = [] ∨ hd 41 t = true := fun h0 => by
        apply hq
        rw [h0] at h'
        have := patF_len _ _ _ _ _ _ _ h'
        exact List.eq_nil_of_length_eq_zero (by simpa using this)
      have hb2 := bareF_ext (g := fun r => patF m (e + 1) none .eps r) (e := e) t hde (fun y2 q3 hq3 hf => patF_ext t n m (d + 1) (e + 1) none .eps y2 r q3 (by omega) (by simp at hm ⊢; omega) hf (fun h0 => absurd h0 hq3)) hb
      rw [hb2]
      have hlen := bareF_len hb
      have hsl := signs_len q2 z
      show patF m e o (.cat x (signs z (q2 ++ t)).1) (signs z (q2 ++ t)).2 = .ok y (q ++ t)
      by_cases ht : t = []
      · subst ht
        have := patF_ext [] n m d e _ _ _ _ _ hde (by simp at hm ⊢; omega) h' (fun _ => .inl rfl)
        rw [List.append_nil] at this ⊢
        exact this
      · rw [signs_ext t q2 z (fun h0 => (hq2 h0).resolve_left ht)]
        exact patF_ext t n m d e _ _ _ _ _ hde (by simp at hm ⊢; omega) h' (fun h0 => .inr ((hq h0).resolve_left ht))
/-- the same, with other room -/
theorem patF_room {n m d : Nat} {o : Option Rx} {x y : Rx} {l q : List UInt8} (hm : l.length < m) (h : patF n d o x l = .ok y q) : patF m d o x l = .ok y q := by
  have := patF_ext [] n m d d o x y l q (Nat.le_refl _) (by simpa using hm) h (fun _ => .inl rfl)
  simpa using this
/-- a pattern in brackets -/
def brack (p : List UInt8) : List UInt8 := 40 :: (p ++ [41])
theorem kind40 : kindF 40 = 5 := rfl
/-- it may be, in brackets: then it is read so, whatever stands behind -/
theorem brack_part {p : List UInt8} {x : Rx} {n m : Nat} (h : patF n 2 none .eps (p ++ [41]) = .ok x [41]) (t : List UInt8) (hm : (p ++ 41 :: t).length < m) :
    partF (bareF (fun r => patF m (1 + 1) none .eps r) 1 40 (p ++ 41 :: t)) = .ok (signs x t).1 (signs x t).2 := by
  have h1 := patF_ext t n m 2 2 none .eps x (p ++ [41]) [41] (Nat.le_refl _) (by simpa using hm) h (fun h0 => by cases h0)
  have e1 : p ++ [41] ++ t = p ++ 41 :: t := by simp
  rw [e1] at h1
  have h2 : bareF (fun r => patF m (1 + 1) none .eps r) 1 40 (p ++ 41 :: t) = .ok x t := by
    unfold bareF
    rw [if_pos kind40]
    unfold innF
    rw [if_neg (by decide)]
    show (match patF m 2 none .eps (p ++ 41 :: t) with
      | Res.err e => Res.err e
      | Res.ok y q => if hd 41 q then Res.ok y (q.drop 1) else Res.err 27) = _
    rw [h1]
    rfl
  rw [h2]
  rfl
/-- either it may be, in brackets, or not: by what it is without -/
theorem brack_cases {p : List UInt8} {x : Rx} (hp : parseF p = .ok x []) (hl : p.length ≤ 60) : patF 99 2 none .eps (p ++ [41]) = .ok x [41] ∨ ∃ e, patF 99 2 none .eps (p ++ [41]) = .err e := by
  cases h : patF 99 2 none .eps (p ++ [41]) with
  | err e => exact .inr ⟨e, rfl⟩
  | ok y q =>
    left
    have h1 := patF_ext [] 99 99 2 1 none .eps y (p ++ [41]) q (by decide) (by simp; omega) h (fun _ => .inl rfl)
    rw [List.append_nil, List.append_nil] at h1
    have hp' : patF 100 1 none .eps p = .ok x [] := by
      unfold parseF at hp
      rw [if_neg (by omega)] at hp
      cases h2 : patF 100 1 none .eps p with
      | err e => rw [h2] at hp; cases hp
      | ok z q2 =>
        rw [h2] at hp
        simp only at hp
        split at hp
        · rename_i hq2
          rw [hq2]
          injection hp with h3 _
          rw [h3]
        · cases hp
    have h2 := patF_ext [41] 100 99 1 1 none .eps x p [] (Nat.le_refl _) (by simp; omega) hp' (fun _ => .inr rfl)
    rw [h1] at h2
    exact h2
theorem parseF_bad {p : List UInt8} {e : Int} (h : patF 99 2 none .eps (p ++ [41]) = .err e) (t : List UInt8) (ht : t = []) (hl : p.length ≤ 60) : parseF (40 :: (p ++ 41 :: t)) = .err e := by
  subst ht
  unfold parseF
  rw [if_neg (by simp; omega), patF_on (by decide) (by decide)]
  have : bareF (fun r => patF 99 (1 + 1) none .eps r) 1 40 (p ++ [41]) = .err e := by
    unfold bareF
    rw [if_pos kind40]
    unfold innF
    rw [if_neg (by decide)]
    show (match patF 99 2 none .eps (p ++ [41]) with
      | Res.err e => Res.err e
      | Res.ok y q => if hd 41 q then Res.ok y (q.drop 1) else Res.err 27) = _
    rw [h]
  rw [this]
  rfl
end Go.Proofs.Ytfnmbembclgknaa
