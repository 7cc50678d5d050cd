/- Patterns that are just a text, plainly. -/
import Derived.Test.YtfnmbembclgknaaRxZ
namespace Go.Proofs.Ytfnmbembclgknaa
set_option linter.unusedVariables false

/-- a pattern of bytes one behind the other -/
def litR : Rx → List UInt8 → Rx
  | z, [] => z
  | z, c :: r => litR (.cat z (.one (withX noX c.toNat c.toNat))) r
/-- a backslash ahead of each byte -/
def bsl : List UInt8 → List UInt8
  | [] => []
  | c :: r => 92 :: c :: bsl r
theorem bsl_len : ∀ s, (bsl s).length = 2 * s.length
  | [] => rfl
  | c :: r => by simp [bsl, bsl_len r]; omega
theorem bsl_snoc (s : List UInt8) (c : UInt8) : bsl (s ++ [c]) = bsl s ++ [92, c] := by
  induction s with
  | nil => rfl
  | cons a r ih => simp [bsl, ih]
theorem head_bsl (s : List UInt8) (y : Rx) : signs y (bsl s) = (y, bsl s) := by
  cases s with
  | nil => rfl
  | cons a r =>
    show signs y (92 :: a :: bsl r) = _
    simp [signs, bsl]
theorem pat_bsl : ∀ (s : List UInt8) (n : Nat) (z : Rx), (bsl s).length < n → patF n 1 none z (bsl s) = .ok (litR z s) []
  | [], 0, z, h => by omega
  | [], n + 1, z, h => patF_end (.inl rfl)
  | c :: r, 0, z, h => by omega
  | c :: r, n + 1, z, h => by
    show patF (n + 1) 1 none z (92 :: c :: bsl r) = _
    rw [patF_on (by decide) (by decide)]
    have hb : bareF (fun r => patF n (1 + 1) none .eps r) 1 92 (c :: bsl r) = .ok (.one (withX noX c.toNat c.toNat)) (bsl r) := by
      unfold bareF
      rw [if_neg (by decide)]
      rfl
    rw [hb]
    show patF n 1 none (.cat z (signs (.one (withX noX c.toNat c.toNat)) (bsl r)).1) (signs (.one (withX noX c.toNat c.toNat)) (bsl r)).2 = _
    rw [head_bsl]
    exact pat_bsl r n _ (by simp [bsl] at h; omega)
theorem one_is (c : UInt8) (s : Bs) : Lang (.one (withX noX c.toNat c.toNat)) s ↔ s = [c] := by
  constructor
  · rintro ⟨d, h1, h2⟩
    rw [h1]
    have : d.toNat = c.toNat := by
      simp [withX, noX] at h2
      omega
    rw [UInt8.toNat_inj.1 this]
  · rintro rfl
    exact ⟨c, rfl, by simp [withX, noX]⟩
theorem lang_lit : ∀ (s : List UInt8) (z : Rx) (t : Bs), Lang (litR z s) t ↔ ∃ u, t = u ++ s ∧ Lang z u
  | [], z, t => by
    simp [litR]
  | c :: r, z, t => by
    rw [litR, lang_lit r]
    constructor
    · rintro ⟨u, rfl, v, w, rfl, h1, h2⟩
      rw [one_is] at h2
      subst h2
      exact ⟨v, by simp, h1⟩
    · rintro ⟨u, rfl, h⟩
      exact ⟨u ++ [c], by simp, u, [c], rfl, h, (one_is c _).2 rfl⟩
theorem lang_text (s t : Bs) : Lang (litR .eps s) t ↔ s = t := by
  rw [lang_lit]
  constructor
  · rintro ⟨u, rfl, h⟩
    have h' : u = [] := h
    rw [h']; rfl
  · rintro rfl
    exact ⟨[], rfl, rfl⟩
theorem parse_bsl {s : List UInt8} (h : s.length ≤ 32) : parseF (bsl s) = .ok (litR .eps s) [] :=
  parse_of (by rw [bsl_len]; omega) (pat_bsl s 100 .eps (by rw [bsl_len]; omega))
theorem mt_text (s t : List UInt8) : mtR (.ok (litR .eps s) []) t = decide (s = t) := by
  apply bool_iff
  rw [mtR_ok, lang_text, decide_eq_true_eq]
/-- a byte that stands for itself -/
def plainB (c : UInt8) : Bool := !([42, 43, 63, 124, 40, 41, 91, 93, 123, 125, 94, 36, 46, 92].contains c)
theorem plain_kind {c : UInt8} (h : plainB c = true) : kindF c = 1 ∧ c ≠ 41 ∧ c ≠ 124 ∧ c ≠ 42 ∧ c ≠ 43 ∧ c ≠ 63 := by
  simp [plainB] at h
  obtain ⟨h1, h2, h3, h4, h5, h6, h7, h8, h9, h10, h11, h12, h13, h14⟩ := h
  refine ⟨?_, h6, h4, h1, h2, h3⟩
  unfold kindF
  simp [*]
theorem head_plain {s : List UInt8} (h : ∀ c ∈ s, plainB c = true) (y : Rx) : signs y s = (y, s) := by
  cases s with
  | nil => rfl
  | cons a r =>
    obtain ⟨_, _, _, h1, h2, h3⟩ := plain_kind (h a (by simp))
    simp [signs, h1, h2, h3]
theorem pat_plain : ∀ (s : List UInt8) (n : Nat) (z : Rx), (∀ c ∈ s, plainB c = true) → s.length < n → patF n 1 none z s = .ok (litR z s) []
  | [], 0, z, _, h => by omega
  | [], n + 1, z, _, h => patF_end (.inl rfl)
  | c :: r, 0, z, _, h => by omega
  | c :: r, n + 1, z, hp, h => by
    obtain ⟨hk, h1, h2, _⟩ := plain_kind (hp c (by simp))
    rw [patF_on h1 h2]
    have hb : bareF (fun r => patF n (1 + 1) none .eps r) 1 c r = .ok (.one (withX noX c.toNat c.toNat)) r := by
      unfold bareF
      rw [if_neg (by rw [hk]; decide)]
      unfold atomF
      rw [hk]
      rfl
    rw [hb]
    show patF n 1 none (.cat z (signs (.one (withX noX c.toNat c.toNat)) r).1) (signs (.one (withX noX c.toNat c.toNat)) r).2 = _
    rw [head_plain (fun d hd => hp d (by simp [hd]))]
    exact pat_plain r n _ (fun d hd => hp d (by simp [hd])) (by simp at h; omega)
theorem parse_plain {s : List UInt8} (hp : ∀ c ∈ s, plainB c = true) (h : s.length ≤ 32) : parseF s = .ok (litR .eps s) [] :=
  parse_of (by omega) (pat_plain s 100 .eps hp (by omega))
end Go.Proofs.Ytfnmbembclgknaa
