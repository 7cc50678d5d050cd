/- A counter that only gets more: what its rise counts (plain data for the law MeldMore). -/
import Derived.Test.YtbibhjcmdehdbaaMuE
namespace Go.Proofs.Ytbibhjcmdehdbaa
open Go.RowKit Go.Sort Go.Maps
set_option linter.unusedVariables false

theorem more_cases {n p m : HV} {E : Int} (h : MoreR n p m E) (hE : E = 0) : (∃ x y, Two n p x y ∧ mSubE x y = 21 ∧ m = n) ∨ (∃ x y, Two n p x y ∧ mSubE x y = 0 ∧ m = mSubO x y) := by
  cases h with
  | bad t n1 n2 => exact absurd hE n1
  | all t h => exact .inl ⟨_, _, t, h, rfl⟩
  | less t h => exact .inr ⟨_, _, t, h, rfl⟩
/-- none was reset behind the one ahead of it -/
def NoR (p : HV) : List HV → Prop
  | [] => True
  | n :: r => (∀ x y, Two n p x y → mSubE x y ≠ 21) ∧ NoR n r
def lastH (p : HV) : List HV → HV
  | [] => p
  | n :: r => lastH n r
theorem lastH_append (p : HV) (l m : List HV) : lastH p (l ++ m) = lastH (lastH p l) m := by
  induction l generalizing p with
  | nil => rfl
  | cons n r ih => exact ih n
theorem NoR.append {p : HV} {l m : List HV} : NoR p (l ++ m) ↔ NoR p l ∧ NoR (lastH p l) m := by
  induction l generalizing p with
  | nil => exact ⟨fun h => ⟨trivial, h⟩, fun h => h.2⟩
  | cons n r ih =>
    show (_ ∧ NoR n (r ++ m)) ↔ (_ ∧ NoR n r) ∧ NoR (lastH n r) m
    rw [ih, and_assoc]
/-- how much a counter rose that was never reset is what it is more at the end -/
theorem rise_counts : ∀ {l : List HV} {a p o : HV} {E : Int}, NoR p l → E = 0 → RiseR a p l o E → o.ct = a.ct + ((lastH p l).ct - p.ct) ∧ o.sm = a.sm + ((lastH p l).sm - p.sm) := by
  intro l
  induction l with
  | nil =>
    intro a p o E _ _ hr
    cases hr
    show a.ct = a.ct + (p.ct - p.ct) ∧ a.sm = a.sm + (p.sm - p.sm)
    omega
  | cons n r ih =>
    intro a p o E hn hE hr
    cases hr with
    | bad m ne => exact absurd hE ne
    | over m t ne => exact absurd hE ne
    | step m t e k =>
      obtain ⟨i1, i2⟩ := ih hn.2 hE k
      have ha := t.add e
      rcases more_cases m rfl with ⟨x, y, t2, h21, _⟩ | ⟨x, y, t2, h0, rfl⟩
      · exact absurd h21 (hn.1 x y t2)
      · have hs := t2.sub h0
        have c1 := ha.ct
        have c2 := hs.ct
        have s1 := ha.sm
        have s2 := hs.sm
        show o.ct = a.ct + ((lastH n r).ct - p.ct) ∧ o.sm = a.sm + ((lastH n r).sm - p.sm)
        omega
/-- what came to a counter did not reset it -/
theorem add_noreset {a b x y : HV} (h : Two a b x y) (he : mAddE x y = 0) : ∀ x' y', Two (mAddO x y) a x' y' → mSubE x' y' = 0 := by
  intro x' y' t
  have i := h.is
  have er : mAddO x y = mAddR x y := by unfold mAddO; rw [if_pos he]; rfl
  have ok := (h.add he).ok
  have hb := (h.back ok (by rw [er]; rfl) (by rw [er]; rfl)).2
  obtain ⟨e1, e2⟩ := t.unique hb
  rw [e1, e2, er, (add_sw i.ox i.oy i.s i.z).1]
  exact (back_sub i.oy i.ox i.s.symm i.z.symm).2.1
/-- cut in two anywhere, it rises as much together -/
theorem rise_cut {p q : HV} {l m : List HV} {a1 a2 a3 o1 o2 o3 : HV} (hn : NoR p (l ++ m)) (hq : lastH p l = q) (z1 : a1.ct = 0 ∧ a1.sm = 0) (z2 : a2.ct = 0 ∧ a2.sm = 0) (z3 : a3.ct = 0 ∧ a3.sm = 0)
    (h1 : RiseR a1 p (l ++ m) o1 0) (h2 : RiseR a2 p l o2 0) (h3 : RiseR a3 q m o3 0) : o1.ct = (lastH p (l ++ m)).ct - p.ct ∧ o2.ct + o3.ct = o1.ct ∧ o2.sm + o3.sm = o1.sm := by
  obtain ⟨n1, n2⟩ := NoR.append.1 hn
  rw [hq] at n2
  obtain ⟨c1, s1⟩ := rise_counts hn rfl h1
  obtain ⟨c2, s2⟩ := rise_counts n1 rfl h2
  obtain ⟨c3, s3⟩ := rise_counts n2 rfl h3
  rw [lastH_append, hq] at c1 s1 ⊢
  rw [hq] at c2 s2
  omega
end Go.Proofs.Ytbibhjcmdehdbaa
