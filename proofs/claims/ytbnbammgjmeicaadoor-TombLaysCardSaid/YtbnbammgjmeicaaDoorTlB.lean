/- Sets of ranges as bits, and what is taken of any bytes. Nothing of the program stands here. -/
import Derived.Test.YtbnbammgjmeicaaDoorTlA
namespace Go.Proofs.YtbnbammgjmeicaaDoor.Tl
open Go.RowKit
set_option linter.unusedVariables false

def layR : Int → List Tm.Rg → List Bool
  | _, [] => []
  | f, r :: t => Tk.codeL (r.1 - f).toNat ++ (Tk.codeL (r.2 - r.1).toNat ++ layR (r.2 + 2) t)
def layT (X : List Tm.Rg) : List Bool := Tk.codeL X.length ++ layR 0 X
/-- rising from here on -/
def CanF : Int → List Tm.Rg → Prop
  | _, [] => True
  | f, r :: t => f ≤ r.1 ∧ r.1 ≤ r.2 ∧ r.2 ≤ 1099511627776 ∧ CanF (r.2 + 2) t
/-- where the next one may begin -/
def endF : Int → List Tm.Rg → Int
  | f, [] => f
  | _, r :: t => endF (r.2 + 2) t
theorem endF_snoc : ∀ (l : List Tm.Rg) (f : Int) (r : Tm.Rg), endF f (l ++ [r]) = r.2 + 2
  | [], f, r => rfl
  | a :: t, f, r => endF_snoc t _ r
theorem canF_mono : ∀ (l : List Tm.Rg) {f g : Int}, f ≤ g → CanF g l → CanF f l
  | [], _, _, _, _ => trivial
  | r :: t, f, g, h, hc => ⟨by have := hc.1; omega, hc.2.1, hc.2.2.1, hc.2.2.2⟩
theorem canF_of : ∀ (l : List Tm.Rg) (f : Int), Tm.Can l → (∀ r ∈ l, f ≤ r.1) → CanF f l
  | [], f, _, _ => trivial
  | r :: t, f, hc, h => by
    obtain ⟨hr, hx⟩ := Tm.can_head hc
    exact ⟨h r (by simp), hr.2.1, hr.2.2, canF_of t _ (Tm.can_tail hc) hx⟩
theorem canF_can : ∀ (l : List Tm.Rg) (f : Int), 0 ≤ f → CanF f l → Tm.Can l ∧ ∀ r ∈ l, f ≤ r.1
  | [], f, _, _ => ⟨Tm.can_nil, fun r h => by simp at h⟩
  | r :: t, f, h0, hc => by
    obtain ⟨h1, h2, h3, h4⟩ := hc
    obtain ⟨i1, i2⟩ := canF_can t (r.2 + 2) (by omega) h4
    refine ⟨⟨fun x hx => ?_, List.pairwise_cons.2 ⟨fun x hx => i2 x hx, i1.2⟩⟩, fun x hx => ?_⟩
    · rcases List.mem_cons.1 hx with rfl | hx
      · exact ⟨by omega, h2, h3⟩
      · exact i1.1 x hx
    · rcases List.mem_cons.1 hx with rfl | hx
      · exact h1
      · have := i2 x hx; omega
theorem can_iff (l : List Tm.Rg) : Tm.Can l ↔ CanF 0 l := ⟨fun h => canF_of l 0 h fun r hr => (h.1 r hr).1, fun h => (canF_can l 0 (by omega) h).1⟩
theorem endF_le : ∀ (l : List Tm.Rg) (f : Int), CanF f l → f ≤ 1099511627778 → endF f l ≤ 1099511627778
  | [], f, _, h => h
  | r :: t, f, hc, h => endF_le t _ hc.2.2.2 (by have := hc.2.2.1; omega)
theorem layR_len : ∀ (l : List Tm.Rg) (f : Int), (layR f l).length ≤ 142 * l.length
  | [], f => by simp [layR]
  | r :: t, f => by
    have ih := layR_len t (r.2 + 2)
    have h1 := Tk.codeL_length (r.1 - f).toNat
    have h2 := Tk.codeL_length (r.2 - r.1).toNat
    unfold layR
    rw [List.length_append, List.length_append, List.length_cons]
    omega
theorem layT_len (l : List Tm.Rg) : (layT l).length ≤ 142 * l.length + 71 := by
  have h1 := layR_len l 0
  have h2 := Tk.codeL_length l.length
  unfold layT
  rw [List.length_append]
  omega
theorem layR_snoc : ∀ (l : List Tm.Rg) (f : Int) (r : Tm.Rg), layR f (l ++ [r]) = layR f l ++ (Tk.codeL (r.1 - endF f l).toNat ++ Tk.codeL (r.2 - r.1).toNat)
  | [], f, r => by simp [layR, endF]
  | a :: t, f, r => by simp [layR, endF, layR_snoc t]
theorem canF_at : ∀ (l : List Tm.Rg) (f : Int) (k : Nat) (r : Tm.Rg), CanF f l → l[k]? = some r → endF f (l.take k) ≤ r.1 ∧ r.1 ≤ r.2 ∧ r.2 ≤ 1099511627776
  | [], f, k, r, _, h => by simp at h
  | a :: t, f, 0, r, hc, h => by
    simp at h
    subst h
    exact ⟨hc.1, hc.2.1, hc.2.2.1⟩
  | a :: t, f, k + 1, r, hc, h => by
    have := canF_at t (a.2 + 2) k r hc.2.2.2 (by simpa using h)
    simpa [endF] using this
theorem endF_ge : ∀ (l : List Tm.Rg) (f : Int), CanF f l → f ≤ endF f l
  | [], f, _ => Int.le_refl _
  | r :: t, f, hc => by
    have := endF_ge t (r.2 + 2) hc.2.2.2
    obtain ⟨h1, h2, h3, _⟩ := hc
    show f ≤ endF (r.2 + 2) t
    omega
theorem canF_take : ∀ (l : List Tm.Rg) (f : Int) (k : Nat), CanF f l → CanF f (l.take k)
  | [], f, k, _ => by simp [CanF]
  | r :: t, f, 0, _ => by simp [CanF]
  | r :: t, f, k + 1, h => ⟨h.1, h.2.1, h.2.2.1, canF_take t _ k h.2.2.2⟩

/-- a count of at most m taken, where m may be below 0 -/
def smallI (bs : List Nat) (m : Int) (s : Nat × Int) : Nat × (Nat × Int) :=
  if s.2 ≠ 0 then (0, s) else if (Tk.countF bs s).2.2 ≠ 0 then (0, (Tk.countF bs s).2) else if m < 0 ∨ m < ((Tk.countF bs s).1 : Int) then (0, (s.1, 9)) else Tk.countF bs s
theorem smallI_nat (bs : List Nat) (m : Nat) (s : Nat × Int) : smallI bs (m : Int) s = Tk.smallF bs m s := by
  unfold smallI Tk.smallF
  have e : (((m : Int) < 0 ∨ (m : Int) < ((Tk.countF bs s).1 : Int)) ↔ m < (Tk.countF bs s).1) := by omega
  simp only [e]
theorem smallI_le (bs : List Nat) (m : Int) (s : Nat × Int) : ((smallI bs m s).1 : Int) ≤ max m 0 := by
  unfold smallI
  split
  · simp; omega
  split
  · simp; omega
  split
  · simp; omega
  · omega
theorem smallI_ok {bs : List Nat} (hb : ∀ b ∈ bs, b < 256) {m : Int} {s : Nat × Int} (h : (smallI bs m s).2.2 = 0) (hl : s.1 ≤ 8 * bs.length) :
    s.2 = 0 ∧ ((smallI bs m s).1 : Int) ≤ m ∧ ∃ u, (smallI bs m s).2 = (u, 0) ∧ s.1 ≤ u ∧ u ≤ 8 * bs.length ∧ Tk.sub bs s.1 u = Tk.codeL (smallI bs m s).1 := by
  unfold smallI at h ⊢
  by_cases h0 : s.2 ≠ 0
  · rw [if_pos h0] at h; exact absurd h h0
  rw [if_neg h0] at h ⊢
  by_cases h1 : (Tk.countF bs s).2.2 ≠ 0
  · rw [if_pos h1] at h; exact absurd h h1
  rw [if_neg h1] at h ⊢
  by_cases h2 : m < 0 ∨ m < ((Tk.countF bs s).1 : Int)
  · rw [if_pos h2] at h; simp at h
  rw [if_neg h2] at h ⊢
  obtain ⟨a, b⟩ := Tk.countF_ok hb h hl
  exact ⟨a, by omega, b⟩
theorem smallI_wrong {bs : List Nat} {m : Int} {s : Nat × Int} (h : s.2 ≠ 0) : smallI bs m s = (0, s) := by unfold smallI; rw [if_pos h]
theorem smallI_back {bs : List Nat} (hb : ∀ b ∈ bs, b < 256) {m : Int} {t x : Nat} (hx : x ≤ 18446744073709551615) (hm : (x : Int) ≤ m) (hl : t + (Tk.codeL x).length ≤ 8 * bs.length) (h : Tk.sub bs t (t + (Tk.codeL x).length) = Tk.codeL x) :
    smallI bs m (t, 0) = (x, (t + (Tk.codeL x).length, 0)) := by
  have e := countF_back hb hx hl h
  unfold smallI
  rw [if_neg (by simp), e]
  simp only
  rw [if_neg (by simp), if_neg (by omega)]

/-- so many ranges taken, from f on, behind X -/
def takeL (bs : List Nat) : Nat → Int → List Tm.Rg → Nat × Int → List Tm.Rg × (Nat × Int)
  | 0, _, X, s => (X, s)
  | n + 1, f, X, s =>
    if (smallI bs (1099511627776 - (f + ((smallI bs 1099511627776 s).1 : Int))) (smallI bs 1099511627776 s).2).2.2 ≠ 0 then
      ([], (smallI bs (1099511627776 - (f + ((smallI bs 1099511627776 s).1 : Int))) (smallI bs 1099511627776 s).2).2)
    else takeL bs n (f + ((smallI bs 1099511627776 s).1 : Int) + ((smallI bs (1099511627776 - (f + ((smallI bs 1099511627776 s).1 : Int))) (smallI bs 1099511627776 s).2).1 : Int) + 2)
      (X ++ [(f + ((smallI bs 1099511627776 s).1 : Int), f + ((smallI bs 1099511627776 s).1 : Int) + ((smallI bs (1099511627776 - (f + ((smallI bs 1099511627776 s).1 : Int))) (smallI bs 1099511627776 s).2).1 : Int))])
      (smallI bs (1099511627776 - (f + ((smallI bs 1099511627776 s).1 : Int))) (smallI bs 1099511627776 s).2).2
theorem takeL_bad {bs : List Nat} {n : Nat} {f : Int} {X : List Tm.Rg} {s s1 s2 : Nat × Int} {a b : Nat} (h1 : smallI bs 1099511627776 s = (a, s1)) (h2 : smallI bs (1099511627776 - (f + (a : Int))) s1 = (b, s2)) (h : s2.2 ≠ 0) :
    takeL bs (n + 1) f X s = ([], s2) := by
  unfold takeL
  rw [h1]
  simp only
  rw [h2]
  simp only
  rw [if_pos h]
theorem takeL_on {bs : List Nat} {n : Nat} {f : Int} {X : List Tm.Rg} {s s1 s2 : Nat × Int} {a b : Nat} (h1 : smallI bs 1099511627776 s = (a, s1)) (h2 : smallI bs (1099511627776 - (f + (a : Int))) s1 = (b, s2)) (h : s2.2 = 0) :
    takeL bs (n + 1) f X s = takeL bs n (f + (a : Int) + (b : Int) + 2) (X ++ [(f + (a : Int), f + (a : Int) + (b : Int))]) s2 := by
  conv => lhs; unfold takeL
  rw [h1]
  simp only
  rw [h2]
  simp only
  rw [if_neg (by simpa using h)]
/-- a set of at most m ranges taken -/
def takeF (bs : List Nat) (m : Int) (s : Nat × Int) : List Tm.Rg × (Nat × Int) := takeL bs (smallI bs m s).1 0 [] (smallI bs m s).2

theorem takeL_ok {bs : List Nat} (hb : ∀ b ∈ bs, b < 256) : ∀ (n : Nat) (f : Int) (X : List Tm.Rg) (s : Nat × Int), s.2 = 0 → s.1 ≤ 8 * bs.length → (takeL bs n f X s).2.2 = 0 →
    ∃ Y u, takeL bs n f X s = (X ++ Y, (u, 0)) ∧ Y.length = n ∧ s.1 ≤ u ∧ u ≤ 8 * bs.length ∧ Tk.sub bs s.1 u = layR f Y ∧ CanF f Y
  | 0, f, X, s, h0, hl, h => by
    obtain ⟨t, x⟩ := s
    simp only at h0
    subst h0
    exact ⟨[], t, by simp [takeL], rfl, Nat.le_refl _, hl, by rw [Tk.sub_self]; rfl, trivial⟩
  | n + 1, f, X, s, h0, hl, h => by
    obtain ⟨a, s1, h1⟩ : ∃ a s1, smallI bs 1099511627776 s = (a, s1) := ⟨_, _, rfl⟩
    obtain ⟨b, s2, h2⟩ : ∃ b s2, smallI bs (1099511627776 - (f + (a : Int))) s1 = (b, s2) := ⟨_, _, rfl⟩
    by_cases hs : s2.2 = 0
    · rw [takeL_on h1 h2 hs] at h ⊢
      have hs1 : s1.2 = 0 := by
        refine Decidable.byContradiction fun hne => ?_
        have := smallI_wrong (bs := bs) (m := 1099511627776 - (f + (a : Int))) hne
        rw [h2] at this
        injection this with _ this
        rw [this] at hs
        exact hne hs
      obtain ⟨_, a1, u1, a2, a3, a4, a5⟩ := smallI_ok hb (m := 1099511627776) (s := s) (by rw [h1]; exact hs1) hl
      rw [h1] at a1 a2 a5
      simp only at a1 a2 a5
      subst a2
      obtain ⟨_, b1, u2, b2, b3, b4, b5⟩ := smallI_ok hb (m := 1099511627776 - (f + (a : Int))) (s := (u1, 0)) (by rw [h2]; exact hs) a4
      rw [h2] at b1 b2 b5
      simp only at b1 b2 b3 b5
      subst b2
      obtain ⟨Y, u, c1, c2, c3, c4, c5, c6⟩ := takeL_ok hb n _ _ _ hs b4 h
      simp only at c3 c5
      refine ⟨(f + (a : Int), f + (a : Int) + (b : Int)) :: Y, u, by rw [c1]; simp, by simp [c2], by omega, c4, ?_, ?_⟩
      · rw [Tk.sub_append bs a3 (show u1 ≤ u by omega), Tk.sub_append bs b3 c3, a5, b5, c5]
        show _ = Tk.codeL (f + (a : Int) - f).toNat ++ (Tk.codeL (f + (a : Int) + (b : Int) - (f + (a : Int))).toNat ++ layR (f + (a : Int) + (b : Int) + 2) Y)
        rw [show (f + (a : Int) - f).toNat = a by omega, show (f + (a : Int) + (b : Int) - (f + (a : Int))).toNat = b by omega]
      · exact ⟨by simp only; omega, by simp only; omega, by simp only; omega, c6⟩
    · rw [takeL_bad h1 h2 hs] at h
      exact absurd h hs
theorem takeL_no {bs : List Nat} : ∀ (n : Nat) (f : Int) (X : List Tm.Rg) (s : Nat × Int), s.2 = 0 → (takeL bs n f X s).2.2 ≠ 0 → (takeL bs n f X s).1 = []
  | 0, f, X, s, h0, h => absurd h0 h
  | n + 1, f, X, s, h0, h => by
    obtain ⟨a, s1, h1⟩ : ∃ a s1, smallI bs 1099511627776 s = (a, s1) := ⟨_, _, rfl⟩
    obtain ⟨b, s2, h2⟩ : ∃ b s2, smallI bs (1099511627776 - (f + (a : Int))) s1 = (b, s2) := ⟨_, _, rfl⟩
    by_cases hs : s2.2 = 0
    · rw [takeL_on h1 h2 hs] at h ⊢
      exact takeL_no n _ _ _ hs h
    · rw [takeL_bad h1 h2 hs]
theorem takeL_back {bs : List Nat} (hb : ∀ b ∈ bs, b < 256) : ∀ (Y : List Tm.Rg) (f : Int) (X : List Tm.Rg) (t : Nat), 0 ≤ f → CanF f Y → t + (layR f Y).length ≤ 8 * bs.length → Tk.sub bs t (t + (layR f Y).length) = layR f Y →
    takeL bs Y.length f X (t, 0) = (X ++ Y, (t + (layR f Y).length, 0))
  | [], f, X, t, _, _, _, _ => by simp [takeL, layR]
  | r :: Y, f, X, t, h0, hc, hl, h => by
    obtain ⟨c1, c2, c3, c4⟩ := hc
    unfold layR at hl h ⊢
    obtain ⟨g1, g2⟩ := sub_cut hl h
    have hl2 : t + (Tk.codeL (r.1 - f).toNat).length + (Tk.codeL (r.2 - r.1).toNat ++ layR (r.2 + 2) Y).length ≤ 8 * bs.length := by rw [List.length_append] at hl; omega
    obtain ⟨g3, g4⟩ := sub_cut hl2 g2
    have hl3 := hl2
    rw [List.length_append] at hl3
    have e1 := smallI_back hb (m := 1099511627776) (t := t) (x := (r.1 - f).toNat) (by omega) (by omega) (by omega) g1
    have e2 := smallI_back hb (m := 1099511627776 - (f + ((r.1 - f).toNat : Int))) (t := t + (Tk.codeL (r.1 - f).toNat).length) (x := (r.2 - r.1).toNat) (by omega) (by omega) (by omega) g3
    have ih := takeL_back hb Y (r.2 + 2) (X ++ [r]) (t + (Tk.codeL (r.1 - f).toNat).length + (Tk.codeL (r.2 - r.1).toNat).length) (by omega) c4 (by omega) g4
    rw [List.length_cons, takeL_on e1 e2 rfl]
    have x1 : f + ((r.1 - f).toNat : Int) = r.1 := by omega
    have x2 : r.1 + ((r.2 - r.1).toNat : Int) = r.2 := by omega
    rw [x1, x2, show ((r.1, r.2) : Tm.Rg) = r from rfl, ih]
    simp [Nat.add_assoc]
theorem takeF_back {bs : List Nat} (hb : ∀ b ∈ bs, b < 256) {X : List Tm.Rg} {m : Int} (hc : Tm.Can X) (hm : (X.length : Int) ≤ m) (hm2 : X.length ≤ 1000000) (hl : (layT X).length ≤ 8 * bs.length) (h : Tk.sub bs 0 (layT X).length = layT X) :
    takeF bs m (0, 0) = (X, ((layT X).length, 0)) := by
  unfold layT at hl h ⊢
  obtain ⟨g1, g2⟩ := sub_cut (t := 0) (by rw [Nat.zero_add]; exact hl) (by rw [Nat.zero_add]; exact h)
  rw [List.length_append] at hl
  have e1 := smallI_back hb (m := m) (t := 0) (x := X.length) (by omega) hm (by omega) g1
  unfold takeF
  rw [e1]
  simp only
  rw [takeL_back hb X 0 [] _ (by omega) ((can_iff X).1 hc) (by omega) g2]
  simp
theorem takeF_ok {bs : List Nat} (hb : ∀ b ∈ bs, b < 256) {m : Int} (h : (takeF bs m (0, 0)).2.2 = 0) :
    ∃ X, takeF bs m (0, 0) = (X, ((layT X).length, 0)) ∧ Tm.Can X ∧ (X.length : Int) ≤ m ∧ (layT X).length ≤ 8 * bs.length ∧ Tk.sub bs 0 (layT X).length = layT X := by
  unfold takeF at h ⊢
  have hs : (smallI bs m (0, 0)).2.2 = 0 := by
    refine Decidable.byContradiction fun hne => ?_
    have hz : (smallI bs m (0, 0)).1 = 0 := by
      unfold smallI at hne ⊢
      split
      · rfl
      split
      · rfl
      split
      · rfl
      · rename_i g1 g2 g3
        rw [if_neg g1, if_neg g2, if_neg g3] at hne
        exact absurd hne g2
    rw [hz] at h
    exact hne h
  obtain ⟨_, a1, u, a2, a3, a4, a5⟩ := smallI_ok hb hs (Nat.zero_le _)
  rw [a2] at h ⊢
  obtain ⟨Y, v, c1, c2, c3, c4, c5, c6⟩ := takeL_ok hb _ 0 [] (u, 0) rfl a4 h
  simp only at c3 c5
  have e : Tk.sub bs 0 v = layT Y := by rw [Tk.sub_append bs a3 c3, a5, c5]; unfold layT; rw [c2]
  have ev : v = (layT Y).length := by rw [← e, sub_length (Nat.zero_le _) c4, Nat.sub_zero]
  refine ⟨Y, by rw [c1, ev]; rfl, (can_iff Y).2 c6, by omega, by omega, by rw [← ev]; exact e⟩
theorem takeF_no {bs : List Nat} {m : Int} (h : (takeF bs m (0, 0)).2.2 ≠ 0) : (takeF bs m (0, 0)).1 = [] := by
  unfold takeF at h ⊢
  by_cases hs : (smallI bs m (0, 0)).2.2 = 0
  · exact takeL_no _ _ _ _ hs h
  · have hz : (smallI bs m (0, 0)).1 = 0 := by
      unfold smallI at hs ⊢
      split
      · rfl
      split
      · rfl
      split
      · rfl
      · rename_i g1 g2 g3
        rw [if_neg g1, if_neg g2, if_neg g3] at hs
        exact absurd hs g2
    rw [hz]
    rfl
end Go.Proofs.YtbnbammgjmeicaaDoor.Tl
