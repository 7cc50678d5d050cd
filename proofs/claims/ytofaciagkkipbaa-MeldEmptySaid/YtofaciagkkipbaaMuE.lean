/- The law MeldEmpty. -/
import Derived.Test.YtofaciagkkipbaaMuC
/-! Nothing added, a histogram taken off itself: plain data. -/
namespace Go.Proofs.Ytofaciagkkipbaa
open Go.RowKit Go.Sort Go.Maps
set_option linter.unusedVariables false

def eAt (h : HV) : HV := ⟨0, h.s, h.z, 0, 0, 0, [], []⟩
theorem two_empty {h : HV} (o : Ok h) : Two h (emptyV h.s) h (eAt h) := by
  have hm : min h.s (emptyV h.s).s = h.s := by show min h.s h.s = h.s; omega
  have e1 : downF h h.s = h := by unfold downF; rw [if_pos rfl]
  have e2 : downF (emptyV h.s) h.s = emptyV h.s := by unfold downF; rw [if_pos (show h.s = (emptyV h.s).s from rfl)]
  refine ⟨?_, o, empty_ok o.s⟩
  rw [hm, e1, e2]
  by_cases e : h.z = -524288
  · have : eAt h = emptyV h.s := HV.eq rfl rfl e rfl rfl rfl rfl rfl
    rw [this]
    exact .done e
  · refine .step e ?_
    have hmax : max h.z (emptyV h.s).z = h.z := by
      have := o.z
      unfold zr at this
      show max h.z (-524288) = h.z
      omega
    have hs : swF (emptyV h.s) h.z = eAt h := by
      unfold swF
      have ho : outF (emptyV h.s).s ((emptyV h.s).P ++ (emptyV h.s).Q) h.z = h.z := by unfold outF; rw [if_neg]; rintro ⟨h1, _⟩; simp [emptyV, hasI] at h1
      rw [ho]
      exact HV.eq rfl rfl rfl rfl rfl rfl rfl rfl
    rw [hmax, sw_self o, hs]
    exact .done rfl
theorem add_empty {h : HV} (o : Ok h) : mAddE h (eAt h) = 0 ∧ mAddO h (eAt h) = h := by
  have z1 := o.toGood.z1
  have hv : mAddV h (eAt h) = h := HV.eq (by show (if (0 : Int) = 0 then h.k else 0) = h.k; rw [if_pos rfl]) rfl rfl (by show h.zc + 0 = h.zc; omega) rfl (by show h.sm + 0 = h.sm; omega) rfl rfl
  have hP : h.P ++ (eAt h).P = h.P := List.append_nil _
  have hQ : h.Q ++ (eAt h).Q = h.Q := List.append_nil _
  have hr : mkR h h.P h.Q = h := HV.eq rfl rfl rfl rfl o.ct rfl (tidy_self o.aP o.pP) (tidy_self o.aQ o.pQ)
  have he : mAddE h (eAt h) = 0 := by
    unfold mAddE
    rw [if_neg (by show ¬ _ < h.zc + 0; omega), if_pos (by show inI64 (h.sm + 0); rw [Int.add_zero]; exact o.sm), hv, hP, hQ]
    unfold mkE
    rw [if_neg (by have := o.ct; have := o.big; omega), hr]
    exact o.chk
  refine ⟨he, ?_⟩
  unfold mAddO
  rw [if_pos he, hv, hP, hQ, hr]
theorem two_self {h : HV} (o : Ok h) : Two h h h h := by
  refine ⟨?_, o, o⟩
  have hm : min h.s h.s = h.s := by omega
  have e1 : downF h h.s = h := by unfold downF; rw [if_pos rfl]
  rw [hm, e1]
  exact .done rfl
def noneOf (h : HV) : HV := ⟨h.k, h.s, h.z, 0, 0, 0, [], []⟩
theorem tidy_off {P : List (Int × Int)} (aP : Asc P) (pP : Pos P) : lessB P P = true ∧ tidy (subL P P) = [] := by
  have hl : ∀ q ∈ P, q.2 ≤ atI P q.1 := fun q hq => by rw [atI_asc aP (i := q.1) (n := q.2) hq]; exact Int.le_refl _
  refine ⟨lessB_yes hl, ?_⟩
  have l1 := less_all aP pP.nn aP hl
  refine asc_ext (tidy_asc _) List.Pairwise.nil (tidy_pos (subL_nn l1)) (fun p hp => by simp at hp) fun i => ?_
  rw [atI_tidy, atI_subL aP (fun h => at_mem h)]
  show _ = 0
  omega
theorem sub_self_ {h : HV} (o : Ok h) : mSubE h h = 0 ∧ mSubO h h = noneOf h := by
  obtain ⟨a1, a2⟩ := tidy_off o.aP o.pP
  obtain ⟨b1, b2⟩ := tidy_off o.aQ o.pQ
  have hs : subOk h h = true := by unfold subOk; rw [a1, b1, decide_eq_true (Int.le_refl _)]; rfl
  have hsm : h.sm - h.sm = 0 := by omega
  have he : mSubE h h = 0 := by
    unfold mSubE
    rw [if_pos hs, hsm, if_pos (by unfold inI64; omega)]
  refine ⟨he, ?_⟩
  unfold mSubO
  rw [if_pos he]
  exact HV.eq rfl rfl rfl (by show h.zc - h.zc = 0; omega) (by show h.ct - h.ct = 0; omega) hsm a2 b2
theorem zero_lists {h : HV} (o : Ok h) (hc : h.ct = 0) : h.P = [] ∧ h.Q = [] := by
  have h1 := o.ct
  have h2 := o.zc
  have h3 := o.nP.cnt
  have h4 := o.nQ.cnt
  have nil : ∀ {l : List (Int × Int)}, Pos l → Nn l → cnt l = 0 → l = [] := by
    intro l p n hl
    cases l with
    | nil => rfl
    | cons a r =>
      have e : cnt (a :: r) = a.2 + cnt r := by simp [cnt]
      have := p a (by simp)
      have := (show Nn r from fun q hq => n q (by simp [hq])).cnt
      omega
  exact ⟨nil o.pP o.nP (by omega), nil o.pQ o.nQ (by omega)⟩
theorem add_zero_ {a b x y : HV} (h : Two a b x y) (ha : a.ct = 0) (hb : b.ct = 0) (sa : a.sm = 0) (sb : b.sm = 0) : mAddE x y = 0 ∧ (mAddO x y).ct = 0 ∧ (mAddO x y).sm = 0 ∧ Ok (mAddO x y) := by
  have i := h.is
  obtain ⟨p1, q1⟩ := zero_lists h.oa ha
  obtain ⟨p2, q2⟩ := zero_lists h.ob hb
  have l1 := i.xP
  have l2 := i.xQ
  have l3 := i.yP
  have l4 := i.yQ
  rw [p1] at l1
  rw [q1] at l2
  rw [p2] at l3
  rw [q2] at l4
  simp only [List.length_nil] at l1 l2 l3 l4
  have he : mAddE x y = 0 := by
    rw [add_E i.ox i.oy i.s i.z (Nat.le_trans (tidy_length _) (by rw [List.length_append]; omega)) (Nat.le_trans (tidy_length _) (by rw [List.length_append]; omega)), if_pos]
    rw [i.xc, i.yc, i.xm, i.ym, ha, hb, sa, sb]
    unfold inI64
    omega
  have k := h.add he
  exact ⟨he, by rw [k.ct, ha, hb]; rfl, by rw [k.sm, sa, sb]; rfl, k.ok⟩
theorem more_self {h m : HV} {E : Int} (o : Ok h) (hm : MoreR h h m E) : m = noneOf h ∧ E = 0 := by
  obtain ⟨e1, e2⟩ := sub_self_ o
  have h1 : MoreR h h (mSubO h h) 0 := .less (two_self o) e1
  rw [e2] at h1
  exact hm.unique h1
theorem rise_same {h o : HV} {E : Int} (oh : Ok h) : ∀ {l : List HV} {a : HV}, (∀ x ∈ l, x = h) → a.ct = 0 → a.sm = 0 → RiseR a h l o E → E = 0 ∧ o.ct = 0 ∧ o.sm = 0 := by
  intro l
  induction l with
  | nil => intro a _ ha sa hr; cases hr; exact ⟨rfl, ha, sa⟩
  | cons y r ih =>
    intro a hl ha sa hr
    obtain rfl : y = h := hl y (by simp)
    cases hr with
    | bad m n => exact absurd (more_self oh m).2 n
    | over m t n =>
      obtain ⟨rfl, _⟩ := more_self oh m
      exact absurd (add_zero_ t ha rfl sa rfl).1 n
    | step m t n k =>
      obtain ⟨rfl, _⟩ := more_self oh m
      obtain ⟨_, h2, h3, _⟩ := add_zero_ t ha rfl sa rfl
      exact ih (fun x hx => hl x (by simp [hx])) h2 h3 k
end Go.Proofs.Ytofaciagkkipbaa

/-! The law MeldEmpty. -/
namespace Go.Proofs.Ytofaciagkkipbaa
open Go.RowKit Go.Sort Go.Maps
set_option linter.unusedVariables false

def EqR (h r : HV) (E : Int) : Prop := r = h ∧ E = 0
def PostG (w3 : World) (g : Nat) (R : HV → Int → Prop) (e : Ending) (w' : World) : Prop :=
  ∃ (r : HV) (E : Int) (A3 B3 : Option Addr) (c3 d3 : Nat), e = .returned (.tuple #[.agg #[.int .i64 r.k, .int .i64 r.s, .int .i64 r.z, .int .u64 r.zc, .int .u64 r.ct, .int .i64 r.sm, .slice A3 r.P.length c3, .slice B3 r.Q.length d3], .int .i64 E]) ∧ R r E ∧ (Bk w' A3 r.P ∧ Bk w' B3 r.Q) ∧ Below w3.heap.size w3 w' ∧ (NewA w3 A3 ∧ NewA w3 B3) ∧ ((∀ a, A3 = some a → a.block ≠ g) ∧ (∀ a, B3 = some a → a.block ≠ g)) ∧ w3.heap.size ≤ g ∧ Box w' g (.int .i64 0) (.int .i64 0) (.int .i64 0) (.int .u64 0) (.int .u64 0) (.int .i64 0) (.slice none 0 0) (.slice none 0 0)
theorem postG {w3 W w' : World} {g : Nat} {R : HV → Int → Prop} {r : HV} {E : Int} {e : Ending} (h0 : Below w3.heap.size w3 W) (hg : w3.heap.size ≤ g) (hz : Box W g (.int .i64 0) (.int .i64 0) (.int .i64 0) (.int .u64 0) (.int .u64 0) (.int .i64 0) (.slice none 0 0) (.slice none 0 0)) (hR : R r E) (h : RetH W r E e w') : PostG w3 g R e w' := by
  obtain ⟨A3, B3, c3, d3, he, hA, hB, hb, nA, nB⟩ := h
  exact ⟨r, E, A3, B3, c3, d3, he, hR, ⟨hA, hB⟩, h0.trans (hb.mono h0.size), ⟨nA.mono h0.size, nB.mono h0.size⟩, ⟨nA.ne hz.lt, nB.ne hz.lt⟩, hg, hz.below hb⟩
theorem RetCut.beforeG {w3 w4 : World} {g : Nat} {R : HV → Int → Prop} {r : HV} {E : Int} {A3 B3 : Option Addr} {c3 d3 : Nat} (hR : R r E) (hA : Bk w4 A3 r.P ∧ Bk w4 B3 r.Q) (hb : Below w3.heap.size w3 w4) (nA : NewA w3 A3 ∧ NewA w3 B3) (ne : (∀ a, A3 = some a → a.block ≠ g) ∧ (∀ a, B3 = some a → a.block ≠ g)) (hg : w3.heap.size ≤ g) (hz : Box w4 g (.int .i64 0) (.int .i64 0) (.int .i64 0) (.int .u64 0) (.int .u64 0) (.int .i64 0) (.slice none 0 0) (.slice none 0 0)) :
    RetCut w3 R (.pointer (some ⟨g, 0, none⟩)) (.int .i64 E) ((((((((w4.setCell ⟨g, 0, none⟩ (.int .i64 r.k)).setCell ⟨g, 1, none⟩ (.int .i64 r.s)).setCell ⟨g, 2, none⟩ (.int .i64 r.z)).setCell ⟨g, 3, none⟩ (.int .u64 r.zc)).setCell ⟨g, 4, none⟩ (.int .u64 r.ct)).setCell ⟨g, 5, none⟩ (.int .i64 r.sm)).setCell ⟨g, 6, none⟩ (.slice A3 r.P.length c3)).setCell ⟨g, 7, none⟩ (.slice B3 r.Q.length d3)) :=
  ⟨g, r, E, A3, B3, c3, d3, rfl, rfl, hR, hg, hz.put8 _ _ _ _ _ _ _ _, ⟨hA.1.set8 ne.1 _ _ _ _ _ _ _ _, hA.2.set8 ne.2 _ _ _ _ _ _ _ _⟩, nA, below_set8 hb hg _ _ _ _ _ _ _ _⟩
theorem Hl.three {w : World} {g : Nat} {A B : Option Addr} {c d : Nat} {h : HV} (hb : w.heap[g]? = some (.cells #[.int .i64 h.k, .int .i64 h.s, .int .i64 h.z, .int .u64 h.zc, .int .u64 h.ct, .int .i64 h.sm, .slice A h.P.length c, .slice B h.Q.length d, .int .i64 h.k, .int .i64 h.s, .int .i64 h.z, .int .u64 h.zc, .int .u64 h.ct, .int .i64 h.sm, .slice A h.P.length c, .slice B h.Q.length d, .int .i64 h.k, .int .i64 h.s, .int .i64 h.z, .int .u64 h.zc, .int .u64 h.ct, .int .i64 h.sm, .slice A h.P.length c, .slice B h.Q.length d] 25 (0, 0)))
    (hA : Bk w A h.P) (hB : Bk w B h.Q) (za : 0 ≤ h.zc ∧ h.zc ≤ 18446744073709551615) : Hl w (some ⟨g, 0, none⟩) [h, h, h] := by
  refine ⟨by simp, .inr ⟨g, 0, rfl, fun j x hj => ?_⟩⟩
  match j, hj with
  | 0, hj =>
    simp at hj
    subst hj
    exact ⟨A, B, c, d, ⟨(by rw [cell_of_row _ _ _ _ _ _ hb]; rfl), (by rw [cell_of_row _ _ _ _ _ _ hb]; rfl), (by rw [cell_of_row _ _ _ _ _ _ hb]; rfl), (by rw [cell_of_row _ _ _ _ _ _ hb]; rfl), (by rw [cell_of_row _ _ _ _ _ _ hb]; rfl), (by rw [cell_of_row _ _ _ _ _ _ hb]; rfl), (by rw [cell_of_row _ _ _ _ _ _ hb]; rfl), (by rw [cell_of_row _ _ _ _ _ _ hb]; rfl)⟩, hA, hB, za.1, za.2⟩
  | 1, hj =>
    simp at hj
    subst hj
    exact ⟨A, B, c, d, ⟨(by rw [cell_of_row _ _ _ _ _ _ hb]; rfl), (by rw [cell_of_row _ _ _ _ _ _ hb]; rfl), (by rw [cell_of_row _ _ _ _ _ _ hb]; rfl), (by rw [cell_of_row _ _ _ _ _ _ hb]; rfl), (by rw [cell_of_row _ _ _ _ _ _ hb]; rfl), (by rw [cell_of_row _ _ _ _ _ _ hb]; rfl), (by rw [cell_of_row _ _ _ _ _ _ hb]; rfl), (by rw [cell_of_row _ _ _ _ _ _ hb]; rfl)⟩, hA, hB, za.1, za.2⟩
  | 2, hj =>
    simp at hj
    subst hj
    exact ⟨A, B, c, d, ⟨(by rw [cell_of_row _ _ _ _ _ _ hb]; rfl), (by rw [cell_of_row _ _ _ _ _ _ hb]; rfl), (by rw [cell_of_row _ _ _ _ _ _ hb]; rfl), (by rw [cell_of_row _ _ _ _ _ _ hb]; rfl), (by rw [cell_of_row _ _ _ _ _ _ hb]; rfl), (by rw [cell_of_row _ _ _ _ _ _ hb]; rfl), (by rw [cell_of_row _ _ _ _ _ _ hb]; rfl), (by rw [cell_of_row _ _ _ _ _ _ hb]; rfl)⟩, hA, hB, za.1, za.2⟩
set_option maxHeartbeats 1500000 in
set_option maxRecDepth 100000 in
theorem empty_main (h : HV) (A B : Option Addr) (c d : Nat) (w : World) (hP : Bk w A h.P) (hQ : Bk w B h.Q) (o : Ok h) (hf : fewB h = true) :
    Calls Try.prog 8 #[.agg #[.int .i64 h.k, .int .i64 h.s, .int .i64 h.z, .int .u64 h.zc, .int .u64 h.ct, .int .i64 h.sm, .slice A h.P.length c, .slice B h.Q.length d]] w fun e w' => e = .returned (.bool true) ∧ Below w.heap.size w w' := by
  have HF := Lib.hid hf
  have HO := Lib.hid o
  have za : 0 ≤ h.zc ∧ h.zc ≤ 18446744073709551615 := ⟨o.zc, o.toGood.z1⟩
  have HZ := Lib.hid za
  clear hf o
  have HKw := Lib.hid (And.intro hP hQ)
  have hb0 := ((Below.refl w.heap.size w).alloc (Nat.le_refl _) (.cells #[.int .i64 h.k, .int .i64 h.s, .int .i64 h.z, .int .u64 h.zc, .int .u64 h.ct, .int .i64 h.sm, .slice A h.P.length c, .slice B h.Q.length d] 25)).alloc (by simp) (.cells #[.int .i64 h.k, .int .i64 h.s, .int .i64 h.z, .int .u64 h.zc, .int .u64 h.ct, .int .i64 h.sm, .slice A h.P.length c, .slice B h.Q.length d] 25)
  have bx0 := (Box.new w (.int .i64 h.k) (.int .i64 h.s) (.int .i64 h.z) (.int .u64 h.zc) (.int .u64 h.ct) (.int .i64 h.sm) (.slice A h.P.length c) (.slice B h.Q.length d)).alloc (.cells #[.int .i64 h.k, .int .i64 h.s, .int .i64 h.z, .int .u64 h.zc, .int .u64 h.ct, .int .i64 h.sm, .slice A h.P.length c, .slice B h.Q.length d] 25)
  have bx1 := Hl.one (Box.newAt (w.alloc (.cells #[.int .i64 h.k, .int .i64 h.s, .int .i64 h.z, .int .u64 h.zc, .int .u64 h.ct, .int .i64 h.sm, .slice A h.P.length c, .slice B h.Q.length d] 25)) (w.heap.size + 1) (by simp) (.int .i64 h.k) (.int .i64 h.s) (.int .i64 h.z) (.int .u64 h.zc) (.int .u64 h.ct) (.int .i64 h.sm) (.slice A h.P.length c) (.slice B h.Q.length d)) (hP.below hb0) (hQ.below hb0) za.1 za.2
  have HX0 := Lib.hid bx0
  have HK0 := Lib.hid (And.intro (hP.below hb0) (hQ.below hb0))
  have HB0 := Lib.hid hb0
  have HL := Lib.hid bx1
  clear hP hQ za hb0 bx0 bx1
  go_enter Try.func8, Try.ntmps8
  go_wp2_with fail
  generalize ((w.alloc (.cells #[.int .i64 h.k, .int .i64 h.s, .int .i64 h.z, .int .u64 h.zc, .int .u64 h.ct, .int .i64 h.sm, .slice A h.P.length c, .slice B h.Q.length d] 25)).alloc (.cells #[.int .i64 h.k, .int .i64 h.s, .int .i64 h.z, .int .u64 h.zc, .int .u64 h.ct, .int .i64 h.sm, .slice A h.P.length c, .slice B h.Q.length d] 25)) = w0 at *
  refine (lright_any (some ⟨w.heap.size + 1, 0, none⟩) 1 1 [h] w0 rfl HL.out).mono ?_
  rintro e w1 ⟨rfl, hb⟩
  have hRR : rightF [h] = true := by unfold rightF; rw [List.all_cons, HF.out]; rfl
  rw [hRR]
  clear hRR HL
  have HX1 := Lib.hid (HX0.out.below hb)
  have HK1 := Lib.hid (And.intro (HK0.out.1.below hb) (HK0.out.2.below hb))
  have HB1 := Lib.hid (HB0.out.trans (hb.mono HB0.out.size))
  clear HB0 HX0 HK0
  clear hb
  obtain ⟨x00, x01, x02, x03, x04, x05, x06, x07⟩ := HX1.out.cells
  have l0 := HX1.out.lt
  go_upto_region 3 with fail
  have HEa := Lib.hid (fun (W : World) (hW : Below w1.heap.size w1 W) => (empty_any 0 h.s W).mono (fun e w' hr => show e = .returned (.agg #[.int .i64 0, .int .i64 h.s, .int .i64 (-524288), .int .u64 0, .int .u64 0, .int .i64 0, .slice none 0 0, .slice none 0 0]) ∧ Below w1.heap.size w1 w' from ⟨hr.1, hW.trans (hr.2.mono hW.size)⟩))
  have HEb := Lib.hid (fun (W : World) (hW : Below w1.heap.size w1 W) (hz : Box W w1.heap.size (.int .i64 0) (.int .i64 0) (.int .i64 0) (.int .u64 0) (.int .u64 0) (.int .i64 0) (.slice none 0 0) (.slice none 0 0)) => (empty_any 0 h.s W).mono (fun e w' hr => show e = .returned (.agg #[.int .i64 0, .int .i64 h.s, .int .i64 (-524288), .int .u64 0, .int .u64 0, .int .i64 0, .slice none 0 0, .slice none 0 0]) ∧ Below w1.heap.size w1 w' ∧ Box w' w1.heap.size (.int .i64 0) (.int .i64 0) (.int .i64 0) (.int .u64 0) (.int .u64 0) (.int .i64 0) (.slice none 0 0) (.slice none 0 0) from ⟨hr.1, hW.trans (hr.2.mono hW.size), hz.below hr.2⟩))
  have HC := Lib.hid (fun (W : World) (hW : Below w1.heap.size w1 W) => show Calls Try.prog 19 #[.agg #[.int .i64 h.k, .int .i64 h.s, .int .i64 h.z, .int .u64 h.zc, .int .u64 h.ct, .int .i64 h.sm, .slice A h.P.length c, .slice B h.Q.length d], .agg #[.int .i64 0, .int .i64 h.s, .int .i64 (-524288), .int .u64 0, .int .u64 0, .int .i64 0, .slice none 0 0, .slice none 0 0]] W (RetH W h 0) from by
    have h1 := add_two' (two_empty HO.out) A B none none c d 0 0 W (HK1.out.1.below hW) (HK1.out.2.below hW) (Bk.nil _ _) (Bk.nil _ _)
    rw [(add_empty HO.out).1, (add_empty HO.out).2] at h1
    exact h1)
  have HCa := Lib.hid (fun (W : World) (hW : Below w1.heap.size w1 W) => (HC.out W hW).mono (fun e w' hr => show PostA w1 (EqR h) e w' from postA hW ⟨rfl, rfl⟩ hr))
  have HCg := Lib.hid (fun (W : World) (g : Nat) (hW : Below w1.heap.size w1 W) (hg : w1.heap.size ≤ g) (hz : Box W g (.int .i64 0) (.int .i64 0) (.int .i64 0) (.int .u64 0) (.int .u64 0) (.int .i64 0) (.slice none 0 0) (.slice none 0 0)) => (HC.out W hW).mono (fun e w' hr => show PostG w1 g (EqR h) e w' from postG hW hg hz ⟨rfl, rfl⟩ hr))
  have hq0 : Below w1.heap.size w1 w1 := Below.refl _ _
  have hq1 : Below w1.heap.size w1 w1.drew := Below.drew (Below.refl _ _)
  have hq2 : Below w1.heap.size w1 (w1.alloc (.cells #[.int .i64 0, .int .i64 0, .int .i64 0, .int .u64 0, .int .u64 0, .int .i64 0, .slice none 0 0, .slice none 0 0] 25)) := (Below.refl _ _).alloc (Nat.le_refl _) _
  have hq3 : Below w1.heap.size w1 (w1.alloc (.cells #[.int .i64 0, .int .i64 0, .int .i64 0, .int .u64 0, .int .u64 0, .int .i64 0, .slice none 0 0, .slice none 0 0] 25)).drew := Below.drew hq2
  have hq4 : Below w1.heap.size w1 (w1.drew.alloc (.cells #[.int .i64 0, .int .i64 0, .int .i64 0, .int .u64 0, .int .u64 0, .int .i64 0, .slice none 0 0, .slice none 0 0] 25)) := hq1.alloc (Nat.le_refl _) _
  have hbz2 : Box (w1.alloc (.cells #[.int .i64 0, .int .i64 0, .int .i64 0, .int .u64 0, .int .u64 0, .int .i64 0, .slice none 0 0, .slice none 0 0] 25)) w1.heap.size (.int .i64 0) (.int .i64 0) (.int .i64 0) (.int .u64 0) (.int .u64 0) (.int .i64 0) (.slice none 0 0) (.slice none 0 0) := Box.new w1 (.int .i64 0) (.int .i64 0) (.int .i64 0) (.int .u64 0) (.int .u64 0) (.int .i64 0) (.slice none 0 0) (.slice none 0 0)
  have hbz3 : Box (w1.alloc (.cells #[.int .i64 0, .int .i64 0, .int .i64 0, .int .u64 0, .int .u64 0, .int .i64 0, .slice none 0 0, .slice none 0 0] 25)).drew w1.heap.size (.int .i64 0) (.int .i64 0) (.int .i64 0) (.int .u64 0) (.int .u64 0) (.int .i64 0) (.slice none 0 0) (.slice none 0 0) := hbz2
  have hbz4 : Box (w1.drew.alloc (.cells #[.int .i64 0, .int .i64 0, .int .i64 0, .int .u64 0, .int .u64 0, .int .i64 0, .slice none 0 0, .slice none 0 0] 25)) w1.heap.size (.int .i64 0) (.int .i64 0) (.int .i64 0) (.int .u64 0) (.int .u64 0) (.int .i64 0) (.slice none 0 0) (.slice none 0 0) := Box.new w1.drew (.int .i64 0) (.int .i64 0) (.int .i64 0) (.int .u64 0) (.int .u64 0) (.int .i64 0) (.slice none 0 0) (.slice none 0 0)
  have HQ := Lib.hid (And.intro hq0 (And.intro hq1 (And.intro hq2 (And.intro hq3 hq4))))
  have HBZ := Lib.hid (And.intro hbz2 (And.intro hbz3 hbz4))
  have HA2 := Lib.hid (fun (w2 : World) (h2 : Below w1.heap.size w1 w2) => show (Below w1.heap.size w1 (w2.alloc (.cells #[.int .i64 0, .int .i64 0, .int .i64 0, .int .u64 0, .int .u64 0, .int .i64 0, .slice none 0 0, .slice none 0 0] 25)) ∧ Below w1.heap.size w1 (w2.alloc (.cells #[.int .i64 0, .int .i64 0, .int .i64 0, .int .u64 0, .int .u64 0, .int .i64 0, .slice none 0 0, .slice none 0 0] 25)).drew ∧ Below w1.heap.size w1 (w2.drew.alloc (.cells #[.int .i64 0, .int .i64 0, .int .i64 0, .int .u64 0, .int .u64 0, .int .i64 0, .slice none 0 0, .slice none 0 0] 25)) ∧ Below w1.heap.size w1 w2.drew) ∧ (Box (w2.alloc (.cells #[.int .i64 0, .int .i64 0, .int .i64 0, .int .u64 0, .int .u64 0, .int .i64 0, .slice none 0 0, .slice none 0 0] 25)) w2.heap.size (.int .i64 0) (.int .i64 0) (.int .i64 0) (.int .u64 0) (.int .u64 0) (.int .i64 0) (.slice none 0 0) (.slice none 0 0) ∧ Box (w2.alloc (.cells #[.int .i64 0, .int .i64 0, .int .i64 0, .int .u64 0, .int .u64 0, .int .i64 0, .slice none 0 0, .slice none 0 0] 25)).drew w2.heap.size (.int .i64 0) (.int .i64 0) (.int .i64 0) (.int .u64 0) (.int .u64 0) (.int .i64 0) (.slice none 0 0) (.slice none 0 0) ∧ Box (w2.drew.alloc (.cells #[.int .i64 0, .int .i64 0, .int .i64 0, .int .u64 0, .int .u64 0, .int .i64 0, .slice none 0 0, .slice none 0 0] 25)) w2.heap.size (.int .i64 0) (.int .i64 0) (.int .i64 0) (.int .u64 0) (.int .u64 0) (.int .i64 0) (.slice none 0 0) (.slice none 0 0)) from ⟨⟨h2.alloc h2.size _, (h2.alloc h2.size _).drew, (Below.drew h2).alloc h2.size _, Below.drew h2⟩, Box.new w2 (.int .i64 0) (.int .i64 0) (.int .i64 0) (.int .u64 0) (.int .u64 0) (.int .i64 0) (.slice none 0 0) (.slice none 0 0), (show Box (w2.alloc (.cells #[.int .i64 0, .int .i64 0, .int .i64 0, .int .u64 0, .int .u64 0, .int .i64 0, .slice none 0 0, .slice none 0 0] 25)) w2.heap.size (.int .i64 0) (.int .i64 0) (.int .i64 0) (.int .u64 0) (.int .u64 0) (.int .i64 0) (.slice none 0 0) (.slice none 0 0) from Box.new w2 (.int .i64 0) (.int .i64 0) (.int .i64 0) (.int .u64 0) (.int .u64 0) (.int .i64 0) (.slice none 0 0) (.slice none 0 0)), Box.new w2.drew (.int .i64 0) (.int .i64 0) (.int .i64 0) (.int .u64 0) (.int .u64 0) (.int .i64 0) (.slice none 0 0) (.slice none 0 0)⟩)
  clear hq0 hq1 hq2 hq3 hq4 hbz2 hbz3 hbz4
  go_cut [3, 4] from 16 to 24 (fun s3 s4 wx => RetCut w1 (EqR h) s3 s4 wx)
  case first =>
    go_region_with (first
      | (go_at_call 31; first
        | ((with_reducible refine (HEb.out _ ?q0 ?q1).mono ?_); (case q1 => with_reducible first | exact HBZ.out.1 | exact HBZ.out.2.1 | exact HBZ.out.2.2); (case q0 => with_reducible first | exact HQ.out.2.2.1 | exact HQ.out.2.2.2.1 | exact HQ.out.2.2.2.2); rintro e w2 ⟨rfl, hw2, hz2⟩; have HW2 := Lib.hid hw2; have HZ2 := Lib.hid hz2; have k0 := (Kept.of_below hw2) _ _ x00; have k1 := (Kept.of_below hw2) _ _ x01; have k2 := (Kept.of_below hw2) _ _ x02; have k3 := (Kept.of_below hw2) _ _ x03; have k4 := (Kept.of_below hw2) _ _ x04; have k5 := (Kept.of_below hw2) _ _ x05; have k6 := (Kept.of_below hw2) _ _ x06; have k7 := (Kept.of_below hw2) _ _ x07; have lk := block_lt_of_cell k0; simp only at lk; clear hw2 hz2)
        | ((with_reducible refine (HEa.out _ ?q0).mono ?_); (case q0 => with_reducible first | exact HQ.out.1 | exact HQ.out.2.1); rintro e w2 ⟨rfl, hw2⟩; have HW2 := Lib.hid hw2; have k0 := (Kept.of_below hw2) _ _ x00; have k1 := (Kept.of_below hw2) _ _ x01; have k2 := (Kept.of_below hw2) _ _ x02; have k3 := (Kept.of_below hw2) _ _ x03; have k4 := (Kept.of_below hw2) _ _ x04; have k5 := (Kept.of_below hw2) _ _ x05; have k6 := (Kept.of_below hw2) _ _ x06; have k7 := (Kept.of_below hw2) _ _ x07; have lk := block_lt_of_cell k0; simp only at lk; clear hw2)
        | fail)
      | (go_at_call 19; first
        | ((with_reducible refine (HCg.out _ w1.heap.size ?q0 (Nat.le_refl _) ?q1).mono ?_); (case q1 => with_reducible exact HZ2.out); (case q0 => with_reducible first | exact HW2.out); rintro e w5 ⟨r, E, A3, B3, c3, d3, rfl, hT, hA, hb, nA, hne, hg, hz⟩; have HT := Lib.hid hT; have HR5 := Lib.hid (And.intro hA (And.intro hb nA)); have HZZ := Lib.hid (And.intro hne (And.intro hg hz)); obtain ⟨z0, z1, z2, z3, z4, z5, z6, z7⟩ := hz.cells; obtain ⟨f0, f1, f2, f3, f4, f5, f6, f7⟩ := hz.frozen; have lz := hz.lt; clear hT hA hb nA hne hg hz)
        | ((with_reducible refine (HCg.out _ w2.heap.size ?q0 HW2.out.size ?q1).mono ?_); (case q1 => with_reducible first | exact (HA2.out w2 HW2.out).2.1 | exact (HA2.out w2 HW2.out).2.2.1 | exact (HA2.out w2 HW2.out).2.2.2); (case q0 => with_reducible first | exact (HA2.out w2 HW2.out).1.1 | exact (HA2.out w2 HW2.out).1.2.1 | exact (HA2.out w2 HW2.out).1.2.2.1); rintro e w5 ⟨r, E, A3, B3, c3, d3, rfl, hT, hA, hb, nA, hne, hg, hz⟩; have HT := Lib.hid hT; have HR5 := Lib.hid (And.intro hA (And.intro hb nA)); have HZZ := Lib.hid (And.intro hne (And.intro hg hz)); obtain ⟨z0, z1, z2, z3, z4, z5, z6, z7⟩ := hz.cells; obtain ⟨f0, f1, f2, f3, f4, f5, f6, f7⟩ := hz.frozen; have lz := hz.lt; clear hT hA hb nA hne hg hz)
        | ((with_reducible refine (HCa.out _ ?q0).mono ?_); (case q0 => with_reducible first | exact HW2.out | exact (HA2.out w2 HW2.out).1.2.2.2); rintro e w5 ⟨r, E, A3, B3, c3, d3, rfl, hT, hA, hb, nA⟩; have HT := Lib.hid hT; have HR5 := Lib.hid (And.intro hA (And.intro hb nA)); clear hT hA hb nA)
        | fail)
      | fail)
    all_goals (go_wp2_with fail)
    all_goals go_meet
    all_goals first
      | (have _ := HZZ; with_reducible exact RetCut.beforeG HT.out HR5.out.1 HR5.out.2.1 HR5.out.2.2 HZZ.out.1 HZZ.out.2.1 HZZ.out.2.2)
      | with_reducible exact RetCut.after HT.out HR5.out.1 HR5.out.2.1 HR5.out.2.2
      | trace_state
  case rest =>
    obtain ⟨gx, r, E, A3, B3, c3, d3, rfl, rfl, hR, hg, hz, hA, hN, hb⟩ := hcut
    obtain ⟨w2, hw2⟩ : ∃ W, W = wc := ⟨_, rfl⟩
    subst hw2
    obtain ⟨hr, hE⟩ := hR
    have hr2 := hr.symm
    subst hr2
    subst hE
    have HX2 := Lib.hid (And.intro (HX1.out.below hb) hz)
    have HK2 := Lib.hid (And.intro (HK1.out.1.below hb) (And.intro (HK1.out.2.below hb) (And.intro hA.1 hA.2)))
    have HB2 := Lib.hid (HB1.out.trans (hb.mono HB1.out.size))
    clear x00 x01 x02 x03 x04 x05 x06 x07 l0 HX1 HK1 HB1 hr hg hz hA hN hb HEa HEb HC HCa HCg
    obtain ⟨x00, x01, x02, x03, x04, x05, x06, x07⟩ := HX2.out.1.cells
    have l0 := HX2.out.1.lt
    go_wp2_with fail
    have hw : Below w2.heap.size w2 (w2.alloc (.cells #[.int .i64 h.k, .int .i64 h.s, .int .i64 h.z, .int .u64 h.zc, .int .u64 h.ct, .int .i64 h.sm, .slice A h.P.length c, .slice B h.Q.length d] 25)) := (Below.refl _ _).alloc (Nat.le_refl _) _
    have HX3 := Lib.hid (And.intro (HX2.out.1.below hw) (And.intro (HX2.out.2.below hw) (Box.new w2 (.int .i64 h.k) (.int .i64 h.s) (.int .i64 h.z) (.int .u64 h.zc) (.int .u64 h.ct) (.int .i64 h.sm) (.slice A h.P.length c) (.slice B h.Q.length d))))
    have HK3 := Lib.hid (And.intro (HK2.out.1.below hw) (And.intro (HK2.out.2.1.below hw) (And.intro (HK2.out.2.2.1.below hw) (HK2.out.2.2.2.below hw))))
    have HB3 := Lib.hid (HB2.out.trans (hw.mono HB2.out.size))
    clear x00 x01 x02 x03 x04 x05 x06 x07 l0 HB2 hw HX2 HK2
    obtain ⟨gs, hgs⟩ : ∃ g, w2.heap.size = g := ⟨_, rfl⟩
    rw [hgs] at HX3 ⊢
    clear hgs
    generalize w2.alloc (.cells #[.int .i64 h.k, .int .i64 h.s, .int .i64 h.z, .int .u64 h.zc, .int .u64 h.ct, .int .i64 h.sm, .slice A h.P.length c, .slice B h.Q.length d] 25) = w3 at *
    refine (sum_one gs 0 1 1 h w3 rfl (Nat.le_refl _) (Hl.one HX3.out.2.2 (HK3.out.1) (HK3.out.2.1) HZ.out.1 HZ.out.2) (fun x hx => by rw [List.mem_singleton.1 hx]; exact HO.out)).mono ?_
    rintro e w4 ⟨A4, B4, c4, d4, rfl, hA, hB, hb, _, _⟩
    simp only [hvA]
    have HX4 := Lib.hid (And.intro (HX3.out.1.below hb) (And.intro (HX3.out.2.1.below hb) (HX3.out.2.2.below hb)))
    have HK4 := Lib.hid (And.intro (HK3.out.1.below hb) (And.intro (HK3.out.2.1.below hb) (And.intro (HK3.out.2.2.1.below hb) (And.intro (HK3.out.2.2.2.below hb) (And.intro (hA) (hB))))))
    have HB4 := Lib.hid (HB3.out.trans (hb.mono HB3.out.size))
    clear HB3 HX3 HK3
    clear hA hB hb
    obtain ⟨x00, x01, x02, x03, x04, x05, x06, x07⟩ := HX4.out.1.cells
    have l0 := HX4.out.1.lt
    go_wp2_with fail
    have hw : Below w4.heap.size w4 (w4.alloc (.cells #[.int .i64 h.k, .int .i64 h.s, .int .i64 h.z, .int .u64 h.zc, .int .u64 h.ct, .int .i64 h.sm, .slice A4 h.P.length c4, .slice B4 h.Q.length d4] 25)) := (Below.refl _ _).alloc (Nat.le_refl _) _
    have HX5 := Lib.hid (And.intro (HX4.out.1.below hw) (And.intro (HX4.out.2.1.below hw) (And.intro (HX4.out.2.2.below hw) (Box.new w4 (.int .i64 h.k) (.int .i64 h.s) (.int .i64 h.z) (.int .u64 h.zc) (.int .u64 h.ct) (.int .i64 h.sm) (.slice A4 h.P.length c4) (.slice B4 h.Q.length d4)))))
    have HK5 := Lib.hid (And.intro (HK4.out.1.below hw) (And.intro (HK4.out.2.1.below hw) (And.intro (HK4.out.2.2.1.below hw) (And.intro (HK4.out.2.2.2.1.below hw) (And.intro (HK4.out.2.2.2.2.1.below hw) (HK4.out.2.2.2.2.2.below hw))))))
    have HB5 := Lib.hid (HB4.out.trans (hw.mono HB4.out.size))
    clear x00 x01 x02 x03 x04 x05 x06 x07 l0 HB4 hw HX4 HK4
    obtain ⟨gy, hgy⟩ : ∃ g, w4.heap.size = g := ⟨_, rfl⟩
    rw [hgy] at HX5 ⊢
    clear hgy
    generalize w4.alloc (.cells #[.int .i64 h.k, .int .i64 h.s, .int .i64 h.z, .int .u64 h.zc, .int .u64 h.ct, .int .i64 h.sm, .slice A4 h.P.length c4, .slice B4 h.Q.length d4] 25) = w5 at *
    refine (sub_two' (two_self HO.out) A B A B c d c d w5 (HK5.out.1) (HK5.out.2.1) (HK5.out.1) (HK5.out.2.1)).mono ?_
    intro e w6 hR
    obtain ⟨A5, B5, c5, d5, rfl, hA, hB, hb, _, _⟩ := hR.as (sub_self_ HO.out).2 (sub_self_ HO.out).1
    simp only [hvA, noneOf, List.length_nil]
    clear hR hA hB
    have HX6 := Lib.hid (And.intro (HX5.out.1.below hb) (And.intro (HX5.out.2.1.below hb) (And.intro (HX5.out.2.2.1.below hb) (HX5.out.2.2.2.below hb))))
    have HK6 := Lib.hid (And.intro (HK5.out.1.below hb) (And.intro (HK5.out.2.1.below hb) (And.intro (HK5.out.2.2.1.below hb) (And.intro (HK5.out.2.2.2.1.below hb) (And.intro (HK5.out.2.2.2.2.1.below hb) (HK5.out.2.2.2.2.2.below hb))))))
    have HB6 := Lib.hid (HB5.out.trans (hb.mono HB5.out.size))
    clear HB5 HX5 HK5
    clear hb
    obtain ⟨x00, x01, x02, x03, x04, x05, x06, x07⟩ := HX6.out.1.cells
    have l0 := HX6.out.1.lt
    obtain ⟨x10, x11, x12, x13, x14, x15, x16, x17⟩ := HX6.out.2.1.cells
    have l1 := HX6.out.2.1.lt
    go_wp2_with fail
    have hw : Below w6.heap.size w6 (w6.alloc (.cells #[.int .i64 h.k, .int .i64 h.s, .int .i64 h.z, .int .u64 0, .int .u64 0, .int .i64 0, .slice A5 0 c5, .slice B5 0 d5] 25)) := (Below.refl _ _).alloc (Nat.le_refl _) _
    have HX7 := Lib.hid (And.intro (HX6.out.1.below hw) (And.intro (HX6.out.2.1.below hw) (And.intro (HX6.out.2.2.1.below hw) (And.intro (HX6.out.2.2.2.below hw) (Box.new w6 (.int .i64 h.k) (.int .i64 h.s) (.int .i64 h.z) (.int .u64 0) (.int .u64 0) (.int .i64 0) (.slice A5 0 c5) (.slice B5 0 d5))))))
    have HK7 := Lib.hid (And.intro (HK6.out.1.below hw) (And.intro (HK6.out.2.1.below hw) (And.intro (HK6.out.2.2.1.below hw) (And.intro (HK6.out.2.2.2.1.below hw) (And.intro (HK6.out.2.2.2.2.1.below hw) (HK6.out.2.2.2.2.2.below hw))))))
    have HB7 := Lib.hid (HB6.out.trans (hw.mono HB6.out.size))
    clear x00 x01 x02 x03 x04 x05 x06 x07 l0 x10 x11 x12 x13 x14 x15 x16 x17 l1 HB6 hw HX6 HK6
    obtain ⟨gz, hgz⟩ : ∃ g, w6.heap.size = g := ⟨_, rfl⟩
    rw [hgz] at HX7 ⊢
    clear hgz
    generalize w6.alloc (.cells #[.int .i64 h.k, .int .i64 h.s, .int .i64 h.z, .int .u64 0, .int .u64 0, .int .i64 0, .slice A5 0 c5, .slice B5 0 d5] 25) = w7 at *
    refine (same_h h h A3 B3 A B c3 d3 c d w7 (HK7.out.2.2.1) (HK7.out.2.2.2.1) (HK7.out.1) (HK7.out.2.1) rfl).mono ?_
    rintro e w8 ⟨rfl, hb⟩
    have HX8 := Lib.hid (And.intro (HX7.out.1.below hb) (And.intro (HX7.out.2.1.below hb) (And.intro (HX7.out.2.2.1.below hb) (And.intro (HX7.out.2.2.2.1.below hb) (HX7.out.2.2.2.2.below hb)))))
    have HK8 := Lib.hid (And.intro (HK7.out.1.below hb) (And.intro (HK7.out.2.1.below hb) (And.intro (HK7.out.2.2.1.below hb) (And.intro (HK7.out.2.2.2.1.below hb) (And.intro (HK7.out.2.2.2.2.1.below hb) (HK7.out.2.2.2.2.2.below hb))))))
    have HB8 := Lib.hid (HB7.out.trans (hb.mono HB7.out.size))
    clear HB7 HX7 HK7
    clear hb
    obtain ⟨x00, x01, x02, x03, x04, x05, x06, x07⟩ := HX8.out.1.cells
    have l0 := HX8.out.1.lt
    obtain ⟨x30, x31, x32, x33, x34, x35, x36, x37⟩ := HX8.out.2.2.2.1.cells
    have l3 := HX8.out.2.2.2.1.lt
    go_wp2_with fail
    refine (same_h h h A4 B4 A B c4 d4 c d w8 (HK8.out.2.2.2.2.1) (HK8.out.2.2.2.2.2) (HK8.out.1) (HK8.out.2.1) rfl).mono ?_
    rintro e w9 ⟨rfl, hb⟩
    have HX9 := Lib.hid (And.intro (HX8.out.1.below hb) (And.intro (HX8.out.2.1.below hb) (And.intro (HX8.out.2.2.1.below hb) (And.intro (HX8.out.2.2.2.1.below hb) (HX8.out.2.2.2.2.below hb)))))
    have HK9 := Lib.hid (And.intro (HK8.out.1.below hb) (And.intro (HK8.out.2.1.below hb) (And.intro (HK8.out.2.2.1.below hb) (And.intro (HK8.out.2.2.2.1.below hb) (And.intro (HK8.out.2.2.2.2.1.below hb) (HK8.out.2.2.2.2.2.below hb))))))
    have HB9 := Lib.hid (HB8.out.trans (hb.mono HB8.out.size))
    clear x00 x01 x02 x03 x04 x05 x06 x07 l0 x30 x31 x32 x33 x34 x35 x36 x37 l3 HB8 HX8 HK8
    clear hb
    obtain ⟨x00, x01, x02, x03, x04, x05, x06, x07⟩ := HX9.out.1.cells
    have l0 := HX9.out.1.lt
    obtain ⟨x40, x41, x42, x43, x44, x45, x46, x47⟩ := HX9.out.2.2.2.2.cells
    have l4 := HX9.out.2.2.2.2.lt
    go_wp2_with fail
    refine (reset_two (two_self HO.out) A B A B c d c d w9 (HK9.out.1) (HK9.out.2.1) (HK9.out.1) (HK9.out.2.1) false (by rw [(sub_self_ HO.out).1]; rfl)).mono ?_
    rintro e w10 ⟨rfl, hb⟩
    have HX10 := Lib.hid (And.intro (HX9.out.1.below hb) (And.intro (HX9.out.2.1.below hb) (And.intro (HX9.out.2.2.1.below hb) (And.intro (HX9.out.2.2.2.1.below hb) (HX9.out.2.2.2.2.below hb)))))
    have HK10 := Lib.hid (And.intro (HK9.out.1.below hb) (And.intro (HK9.out.2.1.below hb) (And.intro (HK9.out.2.2.1.below hb) (And.intro (HK9.out.2.2.2.1.below hb) (And.intro (HK9.out.2.2.2.2.1.below hb) (HK9.out.2.2.2.2.2.below hb))))))
    have HB10 := Lib.hid (HB9.out.trans (hb.mono HB9.out.size))
    clear x00 x01 x02 x03 x04 x05 x06 x07 l0 x40 x41 x42 x43 x44 x45 x46 x47 l4 HB9 HX9 HK9
    clear hb
    obtain ⟨x00, x01, x02, x03, x04, x05, x06, x07⟩ := HX10.out.1.cells
    have l0 := HX10.out.1.lt
    by_cases hk : h.k = 0
    · skip
      have hk1 : (h.k != 0) = false := by simpa using hk
      have HK0 := Lib.hid hk
      clear hk
      go_wp2_with fail
      have hw : Below w10.heap.size w10 (w10.alloc (.cells #[.int .i64 h.k, .int .i64 h.s, .int .i64 h.z, .int .u64 h.zc, .int .u64 h.ct, .int .i64 h.sm, .slice A h.P.length c, .slice B h.Q.length d, .int .i64 h.k, .int .i64 h.s, .int .i64 h.z, .int .u64 h.zc, .int .u64 h.ct, .int .i64 h.sm, .slice A h.P.length c, .slice B h.Q.length d, .int .i64 h.k, .int .i64 h.s, .int .i64 h.z, .int .u64 h.zc, .int .u64 h.ct, .int .i64 h.sm, .slice A h.P.length c, .slice B h.Q.length d] 25)) := (Below.refl _ _).alloc (Nat.le_refl _) _
      have hl3 := Hl.three (heap_alloc_new w10 (.cells #[.int .i64 h.k, .int .i64 h.s, .int .i64 h.z, .int .u64 h.zc, .int .u64 h.ct, .int .i64 h.sm, .slice A h.P.length c, .slice B h.Q.length d, .int .i64 h.k, .int .i64 h.s, .int .i64 h.z, .int .u64 h.zc, .int .u64 h.ct, .int .i64 h.sm, .slice A h.P.length c, .slice B h.Q.length d, .int .i64 h.k, .int .i64 h.s, .int .i64 h.z, .int .u64 h.zc, .int .u64 h.ct, .int .i64 h.sm, .slice A h.P.length c, .slice B h.Q.length d] 25)) (HK10.out.1.below hw) (HK10.out.2.1.below hw) HZ.out
      have HB11 := Lib.hid (HB10.out.trans (hw.mono HB10.out.size))
      have HL3 := Lib.hid hl3
      clear hw hl3 HX10 HK10 HB10
      clear x00 x01 x02 x03 x04 x05 x06 x07 l0
      obtain ⟨gt, hgt⟩ : ∃ g, w10.heap.size = g := ⟨_, rfl⟩
      rw [hgt] at HL3 ⊢
      clear hgt
      generalize w10.alloc (.cells #[.int .i64 h.k, .int .i64 h.s, .int .i64 h.z, .int .u64 h.zc, .int .u64 h.ct, .int .i64 h.sm, .slice A h.P.length c, .slice B h.Q.length d, .int .i64 h.k, .int .i64 h.s, .int .i64 h.z, .int .u64 h.zc, .int .u64 h.ct, .int .i64 h.sm, .slice A h.P.length c, .slice B h.Q.length d, .int .i64 h.k, .int .i64 h.s, .int .i64 h.z, .int .u64 h.zc, .int .u64 h.ct, .int .i64 h.sm, .slice A h.P.length c, .slice B h.Q.length d] 25) = w11 at *
      refine (rise_h gt 0 3 3 h [h, h] w11 rfl (Nat.le_refl _) (by decide) HL3.out (fun x hx => by have : x = h := (by simpa using hx); rw [this]; exact HO.out) (anyK_no (fun x hx => by have : x = h := (by simpa using hx); rw [this]; exact HK0.out))).mono ?_
      rintro e w12 ⟨o, E, hr, A6, B6, c6, d6, rfl, _, _, hb, _, _⟩
      obtain ⟨rfl, ho1, ho2⟩ := rise_same HO.out (fun x hx => by simpa using hx) rfl rfl hr
      have HB12 := Lib.hid (HB11.out.trans (hb.mono HB11.out.size))
      simp only [hvA, ho1, ho2]
      clear hb hr ho1 ho2
      go_wp2_with fail
      have HB13 := Lib.hid (HB12.out.alloc HB12.out.size (.cells #[.int .i64 o.k, .int .i64 o.s, .int .i64 o.z, .int .u64 o.zc, .int .u64 0, .int .i64 0, .slice A6 o.P.length c6, .slice B6 o.Q.length d6] 25))
      have bx := Box.new w12 (.int .i64 o.k) (.int .i64 o.s) (.int .i64 o.z) (.int .u64 o.zc) (.int .u64 0) (.int .i64 0) (.slice A6 o.P.length c6) (.slice B6 o.Q.length d6)
      have HBX := Lib.hid bx
      clear bx
      obtain ⟨gr, hgr⟩ : ∃ g, w12.heap.size = g := ⟨_, rfl⟩
      rw [hgr] at HBX ⊢
      clear hgr
      generalize w12.alloc (.cells #[.int .i64 o.k, .int .i64 o.s, .int .i64 o.z, .int .u64 o.zc, .int .u64 0, .int .i64 0, .slice A6 o.P.length c6, .slice B6 o.Q.length d6] 25) = w13 at *
      refine (awake07 w13).mono ?_
      rintro e w14 ⟨rfl, hb⟩
      have HB14 := Lib.hid (HB13.out.trans (hb.mono HB13.out.size))
      obtain ⟨x0, x1, x2, x3, x4, x5, x6, x7⟩ := (HBX.out.below hb).cells
      have lx := (HBX.out.below hb).lt
      clear hb
      go_wp2_with fail
      go_ret
      exact ⟨rfl, HB14.out⟩
    · skip
      have hk1 : (h.k != 0) = true := by simpa using hk
      clear hk
      go_wp2_with fail
      refine (awake07 w10).mono ?_
      rintro e w11 ⟨rfl, hb⟩
      have HX11 := Lib.hid (And.intro (HX10.out.1.below hb) (And.intro (HX10.out.2.1.below hb) (And.intro (HX10.out.2.2.1.below hb) (And.intro (HX10.out.2.2.2.1.below hb) (HX10.out.2.2.2.2.below hb)))))
      have HK11 := Lib.hid (And.intro (HK10.out.1.below hb) (And.intro (HK10.out.2.1.below hb) (And.intro (HK10.out.2.2.1.below hb) (And.intro (HK10.out.2.2.2.1.below hb) (And.intro (HK10.out.2.2.2.2.1.below hb) (HK10.out.2.2.2.2.2.below hb))))))
      have HB11 := Lib.hid (HB10.out.trans (hb.mono HB10.out.size))
      clear x00 x01 x02 x03 x04 x05 x06 x07 l0 HB10 HX10 HK10
      clear hb
      go_wp2_with fail
      go_ret
      exact ⟨rfl, HB11.out⟩
set_option maxHeartbeats 1500000 in
set_option maxRecDepth 100000 in
theorem empty_none (h : HV) (A B : Option Addr) (c d : Nat) (w : World) (hP : Bk w A h.P) (hQ : Bk w B h.Q) (za : 0 ≤ h.zc ∧ h.zc ≤ 18446744073709551615) (hf : fewB h = false) :
    Calls Try.prog 8 #[.agg #[.int .i64 h.k, .int .i64 h.s, .int .i64 h.z, .int .u64 h.zc, .int .u64 h.ct, .int .i64 h.sm, .slice A h.P.length c, .slice B h.Q.length d]] w fun e w' => e = .returned (.bool true) ∧ Below w.heap.size w w' := by
  have HF := Lib.hid hf
  clear hf
  have HKw := Lib.hid (And.intro hP hQ)
  have hb0 := ((Below.refl w.heap.size w).alloc (Nat.le_refl _) (.cells #[.int .i64 h.k, .int .i64 h.s, .int .i64 h.z, .int .u64 h.zc, .int .u64 h.ct, .int .i64 h.sm, .slice A h.P.length c, .slice B h.Q.length d] 25)).alloc (by simp) (.cells #[.int .i64 h.k, .int .i64 h.s, .int .i64 h.z, .int .u64 h.zc, .int .u64 h.ct, .int .i64 h.sm, .slice A h.P.length c, .slice B h.Q.length d] 25)
  have bx0 := (Box.new w (.int .i64 h.k) (.int .i64 h.s) (.int .i64 h.z) (.int .u64 h.zc) (.int .u64 h.ct) (.int .i64 h.sm) (.slice A h.P.length c) (.slice B h.Q.length d)).alloc (.cells #[.int .i64 h.k, .int .i64 h.s, .int .i64 h.z, .int .u64 h.zc, .int .u64 h.ct, .int .i64 h.sm, .slice A h.P.length c, .slice B h.Q.length d] 25)
  have bx1 := Hl.one (Box.newAt (w.alloc (.cells #[.int .i64 h.k, .int .i64 h.s, .int .i64 h.z, .int .u64 h.zc, .int .u64 h.ct, .int .i64 h.sm, .slice A h.P.length c, .slice B h.Q.length d] 25)) (w.heap.size + 1) (by simp) (.int .i64 h.k) (.int .i64 h.s) (.int .i64 h.z) (.int .u64 h.zc) (.int .u64 h.ct) (.int .i64 h.sm) (.slice A h.P.length c) (.slice B h.Q.length d)) (hP.below hb0) (hQ.below hb0) za.1 za.2
  have HX0 := Lib.hid bx0
  have HK0 := Lib.hid (And.intro (hP.below hb0) (hQ.below hb0))
  have HB0 := Lib.hid hb0
  have HL := Lib.hid bx1
  clear hP hQ za hb0 bx0 bx1
  go_enter Try.func8, Try.ntmps8
  go_wp2_with fail
  generalize ((w.alloc (.cells #[.int .i64 h.k, .int .i64 h.s, .int .i64 h.z, .int .u64 h.zc, .int .u64 h.ct, .int .i64 h.sm, .slice A h.P.length c, .slice B h.Q.length d] 25)).alloc (.cells #[.int .i64 h.k, .int .i64 h.s, .int .i64 h.z, .int .u64 h.zc, .int .u64 h.ct, .int .i64 h.sm, .slice A h.P.length c, .slice B h.Q.length d] 25)) = w0 at *
  refine (lright_any (some ⟨w.heap.size + 1, 0, none⟩) 1 1 [h] w0 rfl HL.out).mono ?_
  rintro e w1 ⟨rfl, hb⟩
  have hRR : rightF [h] = false := by unfold rightF; rw [List.all_cons, HF.out]; rfl
  rw [hRR]
  clear hRR HL
  have HX1 := Lib.hid (HX0.out.below hb)
  have HK1 := Lib.hid (And.intro (HK0.out.1.below hb) (HK0.out.2.below hb))
  have HB1 := Lib.hid (HB0.out.trans (hb.mono HB0.out.size))
  clear HB0 HX0 HK0
  clear hb
  obtain ⟨x00, x01, x02, x03, x04, x05, x06, x07⟩ := HX1.out.cells
  have l0 := HX1.out.lt
  go_wp2_with fail
  refine (awake07 w1).mono ?_
  rintro e w2 ⟨rfl, hb⟩
  have HX2 := Lib.hid (HX1.out.below hb)
  have HK2 := Lib.hid (And.intro (HK1.out.1.below hb) (HK1.out.2.below hb))
  have HB2 := Lib.hid (HB1.out.trans (hb.mono HB1.out.size))
  clear x00 x01 x02 x03 x04 x05 x06 x07 l0 HB1 HX1 HK1
  clear hb
  go_wp2_with fail
  go_ret
  exact ⟨rfl, HB2.out⟩
theorem empty_walk (h : HV) (A B : Option Addr) (c d : Nat) (w : World) (hP : Bk w A h.P) (hQ : Bk w B h.Q) (za : 0 ≤ h.zc ∧ h.zc ≤ 18446744073709551615) (sa : inI64 h.sm) :
    Calls Try.prog 8 #[.agg #[.int .i64 h.k, .int .i64 h.s, .int .i64 h.z, .int .u64 h.zc, .int .u64 h.ct, .int .i64 h.sm, .slice A h.P.length c, .slice B h.Q.length d]] w fun e w' => e = .returned (.bool true) ∧ Below w.heap.size w w' := by
  rcases hf : fewB h with _ | _
  · exact empty_none h A B c d w hP hQ za hf
  · exact empty_main h A B c d w hP hQ (fewB_ok hf za.1 sa hP.2.1 hQ.2.1) hf
end Go.Proofs.Ytofaciagkkipbaa
