/- The law MeldEmpty. -/
import Derived.Test.YtbibhjcmdehdbaaMuC
/-! Nothing added, a histogram taken off itself: plain data. -/
namespace Go.Proofs.Ytbibhjcmdehdbaa
open Go.RowKit Go.Sort Go.Maps
set_option linter.unusedVariables false

def eAt (h : HV) : HV := ⟨0, h.s, h.z, 0, 0, 0, [], []⟩
theorem two_empty {h : HV} (o : Ok h) : Two h (emptyV h.s) h (eAt h) := by
  have hm : min h.s (emptyV h.s).s = h.s := by show min h.s h.s = h.s; omega
  have e1 : downF h h.s = h := by unfold downF; rw [if_pos rfl]
  have e2 : downF (emptyV h.s) h.s = emptyV h.s := by unfold downF; rw [if_pos (show h.s = (emptyV h.s).s from rfl)]
  refine ⟨?_, o, empty_ok o.s⟩
  rw [hm, e1, e2]
  by_cases e : h.z = -524288
  · have : eAt h = emptyV h.s := HV.eq rfl rfl e rfl rfl rfl rfl rfl
    rw [this]
    exact .done e
  · refine .step e ?_
    have hmax : max h.z (emptyV h.s).z = h.z := by
      have := o.z
      unfold zr at this
      show max h.z (-524288) = h.z
      omega
    have hs : swF (emptyV h.s) h.z = eAt h := by
      unfold swF
      have ho : outF (emptyV h.s).s ((emptyV h.s).P ++ (emptyV h.s).Q) h.z = h.z := by unfold outF; rw [if_neg]; rintro ⟨h1, _⟩; simp [emptyV, hasI] at h1
      rw [ho]
      exact HV.eq rfl rfl rfl rfl rfl rfl rfl rfl
    rw [hmax, sw_self o, hs]
    exact .done rfl
theorem add_empty {h : HV} (o : Ok h) : mAddE h (eAt h) = 0 ∧ mAddO h (eAt h) = h := by
  have z1 := o.toGood.z1
  have hv : mAddV h (eAt h) = h := HV.eq (by show (if (0 : Int) = 0 then h.k else 0) = h.k; rw [if_pos rfl]) rfl rfl (by show h.zc + 0 = h.zc; omega) rfl (by show h.sm + 0 = h.sm; omega) rfl rfl
  have hP : h.P ++ (eAt h).P = h.P := List.append_nil _
  have hQ : h.Q ++ (eAt h).Q = h.Q := List.append_nil _
  have hr : mkR h h.P h.Q = h := HV.eq rfl rfl rfl rfl o.ct rfl (tidy_self o.aP o.pP) (tidy_self o.aQ o.pQ)
  have he : mAddE h (eAt h) = 0 := by
    unfold mAddE
    rw [if_neg (by show ¬ _ < h.zc + 0; omega), if_pos (by show inI64 (h.sm + 0); rw [Int.add_zero]; exact o.sm), hv, hP, hQ]
    unfold mkE
    rw [if_neg (by have := o.ct; have := o.big; omega), hr]
    exact o.chk
  refine ⟨he, ?_⟩
  unfold mAddO
  rw [if_pos he, hv, hP, hQ, hr]
theorem two_self {h : HV} (o : Ok h) : Two h h h h := by
  refine ⟨?_, o, o⟩
  have hm : min h.s h.s = h.s := by omega
  have e1 : downF h h.s = h := by unfold downF; rw [if_pos rfl]
  rw [hm, e1]
  exact .done rfl
def noneOf (h : HV) : HV := ⟨h.k, h.s, h.z, 0, 0, 0, [], []⟩
theorem tidy_off {P : List (Int × Int)} (aP : Asc P) (pP : Pos P) : lessB P P = true ∧ tidy (subL P P) = [] := by
  have hl : ∀ q ∈ P, q.2 ≤ atI P q.1 := fun q hq => by rw [atI_asc aP (i := q.1) (n := q.2) hq]; exact Int.le_refl _
  refine ⟨lessB_yes hl, ?_⟩
  have l1 := less_all aP pP.nn aP hl
  refine asc_ext (tidy_asc _) List.Pairwise.nil (tidy_pos (subL_nn l1)) (fun p hp => by simp at hp) fun i => ?_
  rw [atI_tidy, atI_subL aP (fun h => at_mem h)]
  show _ = 0
  omega
theorem sub_self_ {h : HV} (o : Ok h) : mSubE h h = 0 ∧ mSubO h h = noneOf h := by
  obtain ⟨a1, a2⟩ := tidy_off o.aP o.pP
  obtain ⟨b1, b2⟩ := tidy_off o.aQ o.pQ
  have hs : subOk h h = true := by unfold subOk; rw [a1, b1, decide_eq_true (Int.le_refl _)]; rfl
  have hsm : h.sm - h.sm = 0 := by omega
  have he : mSubE h h = 0 := by
    unfold mSubE
    rw [if_pos hs, hsm, if_pos (by unfold inI64; omega)]
  refine ⟨he, ?_⟩
  unfold mSubO
  rw [if_pos he]
  exact HV.eq rfl rfl rfl (by show h.zc - h.zc = 0; omega) (by show h.ct - h.ct = 0; omega) hsm a2 b2
theorem zero_lists {h : HV} (o : Ok h) (hc : h.ct = 0) : h.P = [] ∧ h.Q = [] := by
  have h1 := o.ct
  have h2 := o.zc
  have h3 := o.nP.cnt
  have h4 := o.nQ.cnt
  have nil : ∀ {l : List (Int × Int)}, Pos l → Nn l → cnt l = 0 → l = [] := by
    intro l p n hl
    cases l with
    | nil => rfl
    | cons a r =>
      have e : cnt (a :: r) = a.2 + cnt r := by simp [cnt]
      have := p a (by simp)
      have := (show Nn r from fun q hq => n q (by simp [hq])).cnt
      omega
  exact ⟨nil o.pP o.nP (by omega), nil o.pQ o.nQ (by omega)⟩
theorem add_zero_ {a b x y : HV} (h : Two a b x y) (ha : a.ct = 0) (hb : b.ct = 0) (sa : a.sm = 0) (sb : b.sm = 0) : mAddE x y = 0 ∧ (mAddO x y).ct = 0 ∧ (mAddO x y).sm = 0 ∧ Ok (mAddO x y) := by
  have i := h.is
  obtain ⟨p1, q1⟩ := zero_lists h.oa ha
  obtain ⟨p2, q2⟩ := zero_lists h.ob hb
  have l1 := i.xP
  have l2 := i.xQ
  have l3 := i.yP
  have l4 := i.yQ
  rw [p1] at l1
  rw [q1] at l2
  rw [p2] at l3
  rw [q2] at l4
  simp only [List.length_nil] at l1 l2 l3 l4
  have he : mAddE x y = 0 := by
    rw [add_E i.ox i.oy i.s i.z (Nat.le_trans (tidy_length _) (by rw [List.length_append]; omega)) (Nat.le_trans (tidy_length _) (by rw [List.length_append]; omega)), if_pos]
    rw [i.xc, i.yc, i.xm, i.ym, ha, hb, sa, sb]
    unfold inI64
    omega
  have k := h.add he
  exact ⟨he, by rw [k.ct, ha, hb]; rfl, by rw [k.sm, sa, sb]; rfl, k.ok⟩
theorem more_self {h m : HV} {E : Int} (o : Ok h) (hm : MoreR h h m E) : m = noneOf h ∧ E = 0 := by
  obtain ⟨e1, e2⟩ := sub_self_ o
  have h1 : MoreR h h (mSubO h h) 0 := .less (two_self o) e1
  rw [e2] at h1
  exact hm.unique h1
theorem rise_same {h o : HV} {E : Int} (oh : Ok h) : ∀ {l : List HV} {a : HV}, (∀ x ∈ l, x = h) → a.ct = 0 → a.sm = 0 → RiseR a h l o E → E = 0 ∧ o.ct = 0 ∧ o.sm = 0 := by
  intro l
  induction l with
  | nil => intro a _ ha sa hr; cases hr; exact ⟨rfl, ha, sa⟩
  | cons y r ih =>
    intro a hl ha sa hr
    obtain rfl : y = h := hl y (by simp)
    cases hr with
    | bad m n => exact absurd (more_self oh m).2 n
    | over m t n =>
      obtain ⟨rfl, _⟩ := more_self oh m
      exact absurd (add_zero_ t ha rfl sa rfl).1 n
    | step m t n k =>
      obtain ⟨rfl, _⟩ := more_self oh m
      obtain ⟨_, h2, h3, _⟩ := add_zero_ t ha rfl sa rfl
      exact ih (fun x hx => hl x (by simp [hx])) h2 h3 k
end Go.Proofs.Ytbibhjcmdehdbaa

/-! The law MeldEmpty. -/
namespace Go.Proofs.Ytbibhjcmdehdbaa
open Go.RowKit Go.Sort Go.Maps
set_option linter.unusedVariables false

def EqR (h r : HV) (E : Int) : Prop := r = h ∧ E = 0
def PostG (w3 : World) (g : Nat) (R : HV → Int → Prop) (e : Ending) (w' : World) : Prop :=
  ∃ (r : HV) (E : Int) (A3 B3 : Option Addr) (c3 d3 : Nat), e = .returned (.tuple #[.agg #[.int .i64 r.k, .int .i64 r.s, .int .i64 r.z, .int .u64 r.zc, .int .u64 r.ct, .int .i64 r.sm, .slice A3 r.P.length c3, .slice B3 r.Q.length d3], .int .i64 E]) ∧ R r E ∧ (Bk w' A3 r.P ∧ Bk w' B3 r.Q) ∧ Below w3.heap.size w3 w' ∧ (NewA w3 A3 ∧ NewA w3 B3) ∧ ((∀ a, A3 = some a → a.block ≠ g) ∧ (∀ a, B3 = some a → a.block ≠ g)) ∧ w3.heap.size ≤ g ∧ Box w' g (.int .i64 0) (.int .i64 0) (.int .i64 0) (.int .u64 0) (.int .u64 0) (.int .i64 0) (.slice none 0 0) (.slice none 0 0)
theorem postG {w3 W w' : World} {g : Nat} {R : HV → Int → Prop} {r : HV} {E : Int} {e : Ending} (h0 : Below w3.heap.size w3 W) (hg : w3.heap.size ≤ g) (hz : Box W g (.int .i64 0) (.int .i64 0) (.int .i64 0) (.int .u64 0) (.int .u64 0) (.int .i64 0) (.slice none 0 0) (.slice none 0 0)) (hR : R r E) (h : RetH W r E e w') : PostG w3 g R e w' := by
  obtain ⟨A3, B3, c3, d3, he, hA, hB, hb, nA, nB⟩ := h
  exact ⟨r, E, A3, B3, c3, d3, he, hR, ⟨hA, hB⟩, h0.trans (hb.mono h0.size), ⟨nA.mono h0.size, nB.mono h0.size⟩, ⟨nA.ne hz.lt, nB.ne hz.lt⟩, hg, hz.below hb⟩
theorem RetCut.beforeG {w3 w4 : World} {g : Nat} {R : HV → Int → Prop} {r : HV} {E : Int} {A3 B3 : Option Addr} {c3 d3 : Nat} (hR : R r E) (hA : Bk w4 A3 r.P ∧ Bk w4 B3 r.Q) (hb : Below w3.heap.size w3 w4) (nA : NewA w3 A3 ∧ NewA w3 B3) (ne : (∀ a, A3 = some a → a.block ≠ g) ∧ (∀ a, B3 = some a → a.block ≠ g)) (hg : w3.heap.size ≤ g) (hz : Box w4 g (.int .i64 0) (.int .i64 0) (.int .i64 0) (.int .u64 0) (.int .u64 0) (.int .i64 0) (.slice none 0 0) (.slice none 0 0)) :
    RetCut w3 R (.pointer (some ⟨g, 0, none⟩)) (.int .i64 E) ((((((((w4.setCell ⟨g, 0, none⟩ (.int .i64 r.k)).setCell ⟨g, 1, none⟩ (.int .i64 r.s)).setCell ⟨g, 2, none⟩ (.int .i64 r.z)).setCell ⟨g, 3, none⟩ (.int .u64 r.zc)).setCell ⟨g, 4, none⟩ (.int .u64 r.ct)).setCell ⟨g, 5, none⟩ (.int .i64 r.sm)).setCell ⟨g, 6, none⟩ (.slice A3 r.P.length c3)).setCell ⟨g, 7, none⟩ (.slice B3 r.Q.length d3)) :=
  ⟨g, r, E, A3, B3, c3, d3, rfl, rfl, hR, hg, hz.put8 _ _ _ _ _ _ _ _, ⟨hA.1.set8 ne.1 _ _ _ _ _ _ _ _, hA.2.set8 ne.2 _ _ _ _ _ _ _ _⟩, nA, below_set8 hb hg _ _ _ _ _ _ _ _⟩
theorem Hl.three {w : World} {g : Nat} {A B : Option Addr} {c d : Nat} {h : HV} (hb : w.heap[g]? = some (.cells #[.int .i64 h.k, .int .i64 h.s, .int .i64 h.z, .int .u64 h.zc, .int .u64 h.ct, .int .i64 h.sm, .slice A h.P.length c, .slice B h.Q.length d, .int .i64 h.k, .int .i64 h.s, .int .i64 h.z, .int .u64 h.zc, .int .u64 h.ct, .int .i64 h.sm, .slice A h.P.length c, .slice B h.Q.length d, .int .i64 h.k, .int .i64 h.s, .int .i64 h.z, .int .u64 h.zc, .int .u64 h.ct, .int .i64 h.sm, .slice A h.P.length c, .slice B h.Q.length d] 25 (0, 0)))
    (hA : Bk w A h.P) (hB : Bk w B h.Q) (za : 0 ≤ h.zc ∧ h.zc ≤ 18446744073709551615) : Hl w (some ⟨g, 0, none⟩) [h, h, h] := by
  refine ⟨by simp, .inr ⟨g, 0, rfl, fun j x hj => ?_⟩⟩
  match j, hj with
  | 0, hj =>
    simp at hj
    subst hj
    exact ⟨A, B, c, d, ⟨(by rw [cell_of_row _ _ _ _ _ _ hb]; rfl), (by rw [cell_of_row _ _ _ _ _ _ hb]; rfl), (by rw [cell_of_row _ _ _ _ _ _ hb]; rfl), (by rw [cell_of_row _ _ _ _ _ _ hb]; rfl), (by rw [cell_of_row _ _ _ _ _ _ hb]; rfl), (by rw [cell_of_row _ _ _ _ _ _ hb]; rfl), (by rw [cell_of_row _ _ _ _ _ _ hb]; rfl), (by rw [cell_of_row _ _ _ _ _ _ hb]; rfl)⟩, hA, hB, za.1, za.2⟩
  | 1, hj =>
    simp at hj
    subst hj
    exact ⟨A, B, c, d, ⟨(by rw [cell_of_row _ _ _ _ _ _ hb]; rfl), (by rw [cell_of_row _ _ _ _ _ _ hb]; rfl), (by rw [cell_of_row _ _ _ _ _ _ hb]; rfl), (by rw [cell_of_row _ _ _ _ _ _ hb]; rfl), (by rw [cell_of_row _ _ _ _ _ _ hb]; rfl), (by rw [cell_of_row _ _ _ _ _ _ hb]; rfl), (by rw [cell_of_row _ _ _ _ _ _ hb]; rfl), (by rw [cell_of_row _ _ _ _ _ _ hb]; rfl)⟩, hA, hB, za.1, za.2⟩
  | 2, hj =>
    simp at hj
    subst hj
    exact ⟨A, B, c, d, ⟨(by rw [cell_of_row _ _ _ _ _ _ hb]; rfl), (by rw [cell_of_row _ _ _ _ _ _ hb]; rfl), (by rw [cell_of_row _ _ _ _ _ _ hb]; rfl), (by rw [cell_of_row _ _ _ _ _ _ hb]; rfl), (by rw [cell_of_row _ _ _ _ _ _ hb]; rfl), (by rw [cell_of_row _ _ _ _ _ _ hb]; rfl), (by rw [cell_of_row _ _ _ _ _ _ hb]; rfl), (by rw [cell_of_row _ _ _ _ _ _ hb]; rfl)⟩, hA, hB, za.1, za.2⟩
end Go.Proofs.Ytbibhjcmdehdbaa
