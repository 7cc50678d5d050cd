import Derived.Test.YtakomfnajeolcaaGreatDoorCtA20
import Derived.Lib.AppendZeros
set_option linter.unusedVariables false
/- Histograms by a coarser schema, swallowed, and made alike, as plain data. -/
namespace Go.Proofs.YtakomfnajeolcaaGreatDoor
open Go.RowKit Go.Sort
set_option linter.unusedVariables false

def zeroV : HV := ⟨0, 0, 0, 0, 0, 0, [], []⟩
/-- a place that a ZeroAt may be -/
def zr (u : Int) : Prop := u = -524288 ∨ (-262144 < u ∧ u ≤ 262144)
/-- what a histogram's parts keep to, but for its ZeroAt and the order of its buckets -/
structure Good (h : HV) : Prop where
  k : h.k = 0 ∨ h.k = 1
  s : rightB h.s = true
  zc : 0 ≤ h.zc
  ct : h.zc + cnt h.P + cnt h.Q = h.ct
  big : h.ct ≤ 18446744073709551615
  sm : inI64 h.sm
  nP : Nn h.P
  nQ : Nn h.Q
  iP : ∀ p ∈ h.P, inB h.s p.1 = true
  iQ : ∀ p ∈ h.Q, inB h.s p.1 = true
/-- a histogram that may be -/
structure Ok (h : HV) : Prop extends Good h where
  z : zr h.z
  aP : Asc h.P
  aQ : Asc h.Q
  pP : Pos h.P
  pQ : Pos h.Q
  lP : h.P.length ≤ 512
  lQ : h.Q.length ≤ 512
  zP : ∀ p ∈ h.P, h.z ≤ un h.s (p.1 - 1)
  zQ : ∀ p ∈ h.Q, h.z ≤ un h.s (p.1 - 1)

theorem bkt_iff {s z : Int} {o : Option Int} {p : Int × Int} : bktE s z o p = 0 ↔ (inB s p.1 = true ∧ (∀ q, o = some q → q < p.1) ∧ p.2 ≠ 0 ∧ z ≤ un s (p.1 - 1)) := by
  unfold bktE
  rcases hi : inB s p.1 with _ | _
  · simp
  · cases o with
    | none =>
      by_cases h3 : p.2 = 0
      · simp [h3]
      · by_cases h4 : un s (p.1 - 1) < z
        · simp [h3, h4]
        · simp [h3, h4]; omega
    | some q0 =>
      by_cases h2 : p.1 ≤ q0
      · simp [h2]; intro h; omega
      · by_cases h3 : p.2 = 0
        · simp [h2, h3]
        · by_cases h4 : un s (p.1 - 1) < z
          · simp [h2, h3, h4]
          · simp [h2, h3, h4]; omega
theorem walk_iff {s z : Int} : ∀ {l : List (Int × Int)} {o : Option Int}, walkE s z o l = 0 ↔ (Asc l ∧ (∀ p ∈ l, p.2 ≠ 0 ∧ inB s p.1 = true ∧ z ≤ un s (p.1 - 1)) ∧ (∀ q, o = some q → ∀ p ∈ l, q < p.1))
  | [], _ => ⟨fun _ => ⟨List.Pairwise.nil, by simp, by simp⟩, fun _ => rfl⟩
  | a :: r, o => by
    unfold walkE
    by_cases hb : bktE s z o a ≠ 0
    · rw [if_pos hb]
      refine ⟨fun h => absurd h hb, fun ⟨h1, h2, h3⟩ => absurd (bkt_iff.2 ⟨(h2 a (by simp)).2.1, fun q hq => h3 q hq a (by simp), (h2 a (by simp)).1, (h2 a (by simp)).2.2⟩) hb⟩
    · rw [if_neg hb]
      obtain ⟨b1, b2, b3, b4⟩ := bkt_iff.1 (show bktE s z o a = 0 by omega)
      rw [walk_iff]
      constructor
      · rintro ⟨i1, i2, i3⟩
        have h3 := i3 a.1 rfl
        refine ⟨List.pairwise_cons.2 ⟨fun p hp => h3 p hp, i1⟩, fun p hp => ?_, fun q hq p hp => ?_⟩
        · rcases List.mem_cons.1 hp with rfl | hp
          · exact ⟨b3, b1, b4⟩
          · exact i2 p hp
        · have := b2 q hq
          rcases List.mem_cons.1 hp with rfl | hp
          · exact this
          · have := h3 p hp
            omega
      · rintro ⟨i1, i2, i3⟩
        obtain ⟨j1, j2⟩ := List.pairwise_cons.1 i1
        exact ⟨j2, fun p hp => i2 p (by simp [hp]), fun q hq p hp => by injection hq with hq; rw [← hq]; exact j1 p hp⟩
theorem side_iff {s z : Int} {l : List (Int × Int)} : sideE s z l = 0 ↔ (l.length ≤ 512 ∧ Asc l ∧ ∀ p ∈ l, p.2 ≠ 0 ∧ inB s p.1 = true ∧ z ≤ un s (p.1 - 1)) := by
  unfold sideE
  by_cases h1 : 512 < l.length
  · rw [if_pos h1]
    exact ⟨fun h => absurd h (by decide), fun h => by omega⟩
  · rw [if_neg h1, walk_iff]
    exact ⟨fun ⟨a, b, _⟩ => ⟨by omega, a, b⟩, fun ⟨_, a, b⟩ => ⟨a, b, fun q hq => by cases hq⟩⟩
theorem check_iff {k s z zc ct : Int} {P Q : List (Int × Int)} : checkF k s z zc ct P Q = 0 ↔ (kindE k s z = 0 ∧ sideE s z P = 0 ∧ sideE s z Q = 0 ∧ zc + cnt (P ++ Q) ≤ 18446744073709551615 ∧ zc + cnt (P ++ Q) = ct) := by
  unfold checkF
  by_cases h1 : kindE k s z ≠ 0
  · rw [if_pos h1]; exact ⟨fun h => absurd h h1, fun h => absurd h.1 h1⟩
  · rw [if_neg h1]
    by_cases h2 : sideE s z P ≠ 0
    · rw [if_pos h2]; exact ⟨fun h => absurd h h2, fun h => absurd h.2.1 h2⟩
    · rw [if_neg h2]
      by_cases h3 : sideE s z Q ≠ 0
      · rw [if_pos h3]; exact ⟨fun h => absurd h h3, fun h => absurd h.2.2.1 h3⟩
      · rw [if_neg h3]
        by_cases h4 : zc + cnt (P ++ Q) ≤ 18446744073709551615
        · rw [if_pos h4]
          by_cases h5 : zc + cnt (P ++ Q) = ct
          · rw [if_pos h5]; exact ⟨fun _ => ⟨by omega, by omega, by omega, h4, h5⟩, fun _ => rfl⟩
          · rw [if_neg h5]; exact ⟨fun h => absurd h (by decide), fun h => absurd h.2.2.2.2 h5⟩
        · rw [if_neg h4]; exact ⟨fun h => absurd h (by decide), fun h => absurd h.2.2.2.1 h4⟩
theorem kind_iff {k s z : Int} : kindE k s z = 0 ↔ ((k = 0 ∨ k = 1) ∧ rightB s = true ∧ zr z) := by
  refine ⟨kindE_zero, fun ⟨h1, h2, h3⟩ => ?_⟩
  unfold kindE
  rw [if_neg (by omega), if_neg (by rw [h2]; simp), if_neg (by unfold zr at h3; omega)]
theorem Ok.of {h : HV} (hc : chk h = 0) (z0 : 0 ≤ h.zc) (hs : inI64 h.sm) (nP : Nn h.P) (nQ : Nn h.Q) : Ok h := by
  unfold chk at hc
  obtain ⟨c1, c2, c3, c4, c5⟩ := check_iff.1 hc
  obtain ⟨k1, k2, k3⟩ := kind_iff.1 c1
  obtain ⟨p1, p2, p3⟩ := side_iff.1 c2
  obtain ⟨q1, q2, q3⟩ := side_iff.1 c3
  rw [cnt_append] at c4 c5
  exact { k := k1, s := k2, zc := z0, ct := by omega, big := by omega, sm := hs, nP := nP, nQ := nQ, iP := fun p hp => (p3 p hp).2.1, iQ := fun p hp => (q3 p hp).2.1, z := k3, aP := p2, aQ := q2, pP := fun p hp => by { have := nP p hp; have := (p3 p hp).1; omega }, pQ := fun p hp => by { have := nQ p hp; have := (q3 p hp).1; omega }, lP := p1, lQ := q1, zP := fun p hp => (p3 p hp).2.2, zQ := fun p hp => (q3 p hp).2.2 }
theorem Ok.chk {h : HV} (o : Ok h) : chk h = 0 := by
  refine check_iff.2 ⟨kind_iff.2 ⟨o.k, o.s, o.z⟩, side_iff.2 ⟨o.lP, o.aP, fun p hp => ⟨by have := o.pP p hp; omega, o.iP p hp, o.zP p hp⟩⟩, side_iff.2 ⟨o.lQ, o.aQ, fun p hp => ⟨by have := o.pQ p hp; omega, o.iQ p hp, o.zQ p hp⟩⟩, ?_, ?_⟩
  · rw [cnt_append]; have := o.ct; have := o.big; omega
  · rw [cnt_append]; have := o.ct; omega
theorem mem_cnt {l : List (Int × Int)} (h : Nn l) {p : Int × Int} (hp : p ∈ l) : p.2 ≤ cnt l := by
  induction l with
  | nil => simp at hp
  | cons a r ih =>
    have e : cnt (a :: r) = a.2 + cnt r := by simp [cnt]
    have hr : Nn r := fun q hq => h q (by simp [hq])
    have ha := h a (by simp)
    have h0 := hr.cnt
    rcases List.mem_cons.1 hp with rfl | hp
    · omega
    · have := ih hr hp; omega
theorem Good.wP {h : HV} (o : Good h) : ∀ p ∈ h.P, Wb p := fun p hp => by
  have b := in_bd (o.iP p hp)
  have h1 := mem_cnt o.nP hp
  have h2 := o.nP p hp
  have := o.ct; have := o.big; have := o.zc; have := o.nQ.cnt
  exact ⟨by omega, by omega, h2, by omega⟩
theorem Good.wQ {h : HV} (o : Good h) : ∀ p ∈ h.Q, Wb p := fun p hp => by
  have b := in_bd (o.iQ p hp)
  have h1 := mem_cnt o.nQ hp
  have h2 := o.nQ p hp
  have := o.ct; have := o.big; have := o.zc; have := o.nP.cnt
  exact ⟨by omega, by omega, h2, by omega⟩

def hasI (l : List (Int × Int)) (i : Int) : Bool := l.any fun p => p.1 == i
theorem hasI_iff {l : List (Int × Int)} {i : Int} : hasI l i = true ↔ ∃ p ∈ l, p.1 = i := by unfold hasI; simp
theorem hasI_tidy {l : List (Int × Int)} (h : Pos l) (i : Int) : hasI (tidy l) i = hasI l i := by
  rw [Bool.eq_iff_iff, hasI_iff, hasI_iff]
  constructor
  · rintro ⟨p, hp, rfl⟩
    exact mem_tidy hp
  · rintro ⟨p, hp, rfl⟩
    refine ⟨(p.1, atI l p.1), (pos_mem (tidy_asc l) (tidy_pos h.nn) _ _).2 ⟨(atI_tidy _ _).symm, ?_⟩, rfl⟩
    have h1 := h p hp
    have : ∀ m : List (Int × Int), Nn m → p ∈ m → p.2 ≤ atI m p.1 := by
      intro m hm hpm
      induction m with
      | nil => simp at hpm
      | cons a r ih =>
        have hr : Nn r := fun q hq => hm q (by simp [hq])
        have ha := hm a (by simp)
        have h0 := (hr.at p.1).1
        rw [atI]
        rcases List.mem_cons.1 hpm with rfl | hpm
        · rw [if_pos rfl]; omega
        · have := ih hr hpm; split <;> omega
    have := this l h.nn hp
    omega
theorem un_mono {s i j : Int} (h : rightB s = true) (hij : i ≤ j) : un s i ≤ un s j := by
  have := (uw_bd h).1
  unfold un
  exact Int.mul_le_mul_of_nonneg_right hij (by omega)
/-- a place, or where the bucket ends in whose midst it lies -/
def outF (s : Int) (L : List (Int × Int)) (u : Int) : Int := if hasI L (cl s u) = true ∧ u ≠ un s (cl s u) then un s (cl s u) else u
/-- no bucket has the place in its midst -/
def Free (s : Int) (L : List (Int × Int)) (u : Int) : Prop := ∀ p ∈ L, u ≤ un s (p.1 - 1) ∨ un s p.1 ≤ u
theorem un_cl_le {s : Int} (h : rightB s = true) (u : Int) : u ≤ un s (cl s u) := (cl_bounds h u).2
theorem outF_ge {s : Int} (h : rightB s = true) (L : List (Int × Int)) (u : Int) : u ≤ outF s L u := by
  unfold outF
  split
  · exact un_cl_le h u
  · omega
theorem outF_free {s : Int} (h : rightB s = true) (L : List (Int × Int)) (u : Int) : Free s L (outF s L u) := by
  intro p hp
  have hb := cl_bounds h u
  have atEnd : un s (cl s u) ≤ un s (p.1 - 1) ∨ un s p.1 ≤ un s (cl s u) := by
    by_cases hc : p.1 ≤ cl s u
    · exact .inr (un_mono h hc)
    · exact .inl (un_mono h (by omega))
  unfold outF
  split
  · exact atEnd
  · rename_i hn
    by_cases e : u = un s (cl s u)
    · rw [e]; rw [← e]; rw [← e] at atEnd; exact atEnd
    · have hno : ¬ p.1 = cl s u := fun he => hn ⟨hasI_iff.2 ⟨p, hp, he⟩, e⟩
      by_cases hc : p.1 < cl s u
      · exact .inr (Int.le_of_lt ((un_lt h).2 hc))
      · refine .inl (Int.le_trans hb.2 (un_mono h (by omega)))
theorem outF_zr {s : Int} (h : rightB s = true) {L : List (Int × Int)} (hL : ∀ p ∈ L, inB s p.1 = true) {u : Int} (hu : zr u) : zr (outF s L u) := by
  unfold outF
  split
  · rename_i hh
    obtain ⟨p, hp, e⟩ := hasI_iff.1 hh.1
    rw [← e]
    exact .inr ((in_iff h).1 (hL p hp))
  · exact hu
theorem outF_of_free {s : Int} (h : rightB s = true) {L : List (Int × Int)} {u : Int} (hf : Free s L u) : outF s L u = u := by
  unfold outF
  split
  · rename_i hh
    obtain ⟨p, hp, e⟩ := hasI_iff.1 hh.1
    have hb := cl_bounds h u
    have := hf p hp
    rw [e] at this
    omega
  · rfl
def G (s u : Int) : Int → Bool := fun i => decide (u < un s i)
def keepL (s u : Int) (l : List (Int × Int)) : List (Int × Int) := l.filter fun p => G s u p.1
def goneN (s u : Int) (l : List (Int × Int)) : Int := cw (fun i => !G s u i) l
theorem keep_gone (s u : Int) (l : List (Int × Int)) : cnt (keepL s u l) + goneN s u l = cnt l := cw_split (G s u) l
def cutTo (h : HV) (u : Int) : HV := { h with z := u, zc := h.zc + goneN h.s u h.P + goneN h.s u h.Q, P := keepL h.s u h.P, Q := keepL h.s u h.Q }
def swF (h : HV) (u : Int) : HV := cutTo h (outF h.s (h.P ++ h.Q) u)
theorem cut_ok {h : HV} (o : Good h) (aP : Asc h.P) (aQ : Asc h.Q) (pP : Pos h.P) (pQ : Pos h.Q) (lP : h.P.length ≤ 512) (lQ : h.Q.length ≤ 512) {u : Int} (hu : zr u) (hf : Free h.s (h.P ++ h.Q) u) : Ok (cutTo h u) := by
  have c1 := keep_gone h.s u h.P
  have c2 := keep_gone h.s u h.Q
  have n1 : 0 ≤ goneN h.s u h.P := o.nP.cw _
  have n2 : 0 ≤ goneN h.s u h.Q := o.nQ.cw _
  have g0 := o.zc
  have hct := o.ct
  have low : ∀ (l : List (Int × Int)), (∀ p ∈ l, p ∈ h.P ++ h.Q) → ∀ p ∈ keepL h.s u l, u ≤ un h.s (p.1 - 1) := by
    intro l hl p hp
    obtain ⟨m1, m2⟩ := List.mem_filter.1 hp
    rcases hf p (hl p m1) with e | e
    · exact e
    · unfold G at m2; simp at m2; omega
  exact { k := o.k, s := o.s, zc := by show 0 ≤ h.zc + _ + _; omega, ct := by show h.zc + goneN h.s u h.P + goneN h.s u h.Q + cnt (keepL h.s u h.P) + cnt (keepL h.s u h.Q) = h.ct; omega, big := o.big, sm := o.sm,
          nP := o.nP.filter _, nQ := o.nQ.filter _, iP := fun p hp => o.iP p (List.mem_filter.1 hp).1, iQ := fun p hp => o.iQ p (List.mem_filter.1 hp).1, z := hu, aP := asc_filter aP _, aQ := asc_filter aQ _, pP := pP.filter _, pQ := pQ.filter _,
          lP := Nat.le_trans (List.length_filter_le _ _) lP, lQ := Nat.le_trans (List.length_filter_le _ _) lQ, zP := low h.P (fun p hp => by simp [hp]), zQ := low h.Q (fun p hp => by simp [hp]) }
theorem Good.inPQ {h : HV} (o : Good h) : ∀ p ∈ h.P ++ h.Q, inB h.s p.1 = true := fun p hp => (List.mem_append.1 hp).elim (o.iP p) (o.iQ p)
theorem sw_ok {h : HV} (o : Ok h) {u : Int} (hu : zr u) : Ok (swF h u) :=
  cut_ok o.toGood o.aP o.aQ o.pP o.pQ o.lP o.lQ (outF_zr o.s o.toGood.inPQ hu) (outF_free o.s _ _)
theorem sw_ge {h : HV} (o : Ok h) (u : Int) : u ≤ (swF h u).z := outF_ge o.s _ _
theorem Ok.free {h : HV} (o : Ok h) : Free h.s (h.P ++ h.Q) h.z := fun p hp => .inl ((List.mem_append.1 hp).elim (o.zP p) (o.zQ p))
theorem keep_all {s u : Int} (h : rightB s = true) {l : List (Int × Int)} (hl : ∀ p ∈ l, u ≤ un s (p.1 - 1)) : keepL s u l = l ∧ goneN s u l = 0 := by
  have hG : ∀ p ∈ l, G s u p.1 = true := fun p hp => by
    have h1 := hl p hp
    have h2 := (uw_bd h).1
    rw [un_pred] at h1
    unfold G; simp; omega
  exact ⟨List.filter_eq_self.2 hG, cw_none fun p hp => by rw [hG p hp]; rfl⟩
theorem cut_self {h : HV} (o : Ok h) : cutTo h h.z = h := by
  obtain ⟨a1, a2⟩ := keep_all o.s o.zP
  obtain ⟨b1, b2⟩ := keep_all o.s o.zQ
  exact HV.eq rfl rfl rfl (by show h.zc + goneN h.s h.z h.P + goneN h.s h.z h.Q = h.zc; omega) rfl rfl a1 b1
theorem sw_self {h : HV} (o : Ok h) : swF h h.z = h := by
  unfold swF
  rw [outF_of_free o.s o.free]
  exact cut_self o
def mv (f t : Int) (l : List (Int × Int)) : List (Int × Int) := l.map fun p => (toV f t p.1, p.2)
/-- a histogram's buckets moved, in whatever order and number -/
def rawH (h : HV) (t : Int) : HV := { h with s := t, P := mv h.s t h.P, Q := mv h.s t h.Q }
def coarseH (h : HV) (t : Int) : HV := { h with s := t, P := tidy (mv h.s t h.P), Q := tidy (mv h.s t h.Q) }
def downF (h : HV) (t : Int) : HV := if t = h.s then h else swF (coarseH h t) h.z
theorem cnt_mv (f t : Int) (l : List (Int × Int)) : cnt (mv f t l) = cnt l := by rw [← cw_all, mv, cw_map, cw_all]
theorem to_in {f t i : Int} (hf : rightB f = true) (ht : rightB t = true) (h : t ≤ f) (hi : inB f i = true) : inB t (toV f t i) = true := by
  obtain ⟨a, b⟩ := (in_iff hf).1 hi
  rw [to_cl hf ht h]
  exact cl_in ht a b
theorem mem_mv {f t : Int} {l : List (Int × Int)} {p : Int × Int} (h : p ∈ mv f t l) : ∃ q ∈ l, p = (toV f t q.1, q.2) := by
  obtain ⟨q, hq, e⟩ := List.mem_map.1 h
  exact ⟨q, hq, e.symm⟩
theorem raw_good {h : HV} (o : Good h) {t : Int} (ht : rightB t = true) (hle : t ≤ h.s) : Good (rawH h t) :=
  { k := o.k, s := ht, zc := o.zc, ct := by show h.zc + cnt (mv h.s t h.P) + cnt (mv h.s t h.Q) = h.ct; rw [cnt_mv, cnt_mv]; exact o.ct, big := o.big, sm := o.sm, nP := o.nP.map _, nQ := o.nQ.map _,
    iP := fun p hp => by { obtain ⟨q, hq, rfl⟩ := mem_mv hp; exact to_in o.s ht hle (o.iP q hq) }, iQ := fun p hp => by { obtain ⟨q, hq, rfl⟩ := mem_mv hp; exact to_in o.s ht hle (o.iQ q hq) } }
theorem tidy_good {h : HV} (o : Good h) : Good { h with P := tidy h.P, Q := tidy h.Q } :=
  { k := o.k, s := o.s, zc := o.zc, ct := by show h.zc + cnt (tidy h.P) + cnt (tidy h.Q) = h.ct; rw [cnt_tidy, cnt_tidy]; exact o.ct, big := o.big, sm := o.sm, nP := (tidy_pos o.nP).nn, nQ := (tidy_pos o.nQ).nn,
    iP := fun p hp => by { obtain ⟨q, hq, e⟩ := mem_tidy hp; rw [← e]; exact o.iP q hq }, iQ := fun p hp => by { obtain ⟨q, hq, e⟩ := mem_tidy hp; rw [← e]; exact o.iQ q hq } }
theorem mv_length (f t : Int) (l : List (Int × Int)) : (mv f t l).length = l.length := List.length_map ..
theorem coarse_parts {h : HV} (o : Ok h) {t : Int} (ht : rightB t = true) (hle : t ≤ h.s) : Good (coarseH h t) ∧ Pos (coarseH h t).P ∧ Pos (coarseH h t).Q ∧ (coarseH h t).P.length ≤ 512 ∧ (coarseH h t).Q.length ≤ 512 := by
  have l1 := tidy_length (mv h.s t h.P)
  have l2 := tidy_length (mv h.s t h.Q)
  rw [mv_length] at l1 l2
  have := o.lP
  have := o.lQ
  exact ⟨tidy_good (raw_good o.toGood ht hle), tidy_pos (o.nP.map _), tidy_pos (o.nQ.map _), by show (tidy (mv h.s t h.P)).length ≤ 512; omega, by show (tidy (mv h.s t h.Q)).length ≤ 512; omega⟩
theorem down_ok {h : HV} (o : Ok h) {t : Int} (ht : rightB t = true) (hle : t ≤ h.s) : Ok (downF h t) := by
  unfold downF
  split
  · exact o
  · obtain ⟨g, p1, p2, l1, l2⟩ := coarse_parts o ht hle
    exact cut_ok g (tidy_asc _) (tidy_asc _) p1 p2 l1 l2 (outF_zr g.s g.inPQ o.z) (outF_free g.s _ _)
theorem down_s (h : HV) (t : Int) : (downF h t).s = t := by
  unfold downF
  split
  · rename_i e; exact e.symm
  · rfl
theorem down_same (h : HV) (t : Int) : (downF h t).k = h.k ∧ (downF h t).ct = h.ct ∧ (downF h t).sm = h.sm := by
  unfold downF
  split <;> exact ⟨rfl, rfl, rfl⟩
/-- what the program's swallow makes of buckets in any order: tidied behind -/
def swG (h : HV) (u : Int) : HV := { h with z := outF h.s (h.P ++ h.Q) u, zc := h.zc + goneN h.s (outF h.s (h.P ++ h.Q) u) h.P + goneN h.s (outF h.s (h.P ++ h.Q) u) h.Q, P := tidy (keepL h.s (outF h.s (h.P ++ h.Q) u) h.P), Q := tidy (keepL h.s (outF h.s (h.P ++ h.Q) u) h.Q) }
theorem swG_ok {h : HV} (o : Ok h) (u : Int) : swG h u = swF h u := by
  refine HV.eq rfl rfl rfl rfl rfl rfl ?_ ?_
  · exact tidy_self (asc_filter o.aP _) (o.pP.filter _)
  · exact tidy_self (asc_filter o.aQ _) (o.pQ.filter _)
theorem Pos.mv {l : List (Int × Int)} (h : Pos l) (f t : Int) : Pos (mv f t l) := fun p hp => by
  obtain ⟨q, hq, rfl⟩ := mem_mv hp
  exact h q hq
theorem swG_raw {h : HV} (o : Ok h) (t u : Int) : swG (rawH h t) u = swF (coarseH h t) u := by
  have e : outF t (mv h.s t h.P ++ mv h.s t h.Q) u = outF t (tidy (mv h.s t h.P) ++ tidy (mv h.s t h.Q)) u := by
    have : ∀ i, hasI (mv h.s t h.P ++ mv h.s t h.Q) i = hasI (tidy (mv h.s t h.P) ++ tidy (mv h.s t h.Q)) i := fun i => by
      have a := hasI_tidy (o.pP.mv h.s t) i
      have b := hasI_tidy (o.pQ.mv h.s t) i
      unfold hasI at *
      rw [List.any_append, List.any_append, a, b]
    unfold outF
    rw [this]
  unfold swG swF cutTo
  show HV.mk _ _ (outF t (mv h.s t h.P ++ mv h.s t h.Q) u) (h.zc + goneN t (outF t (mv h.s t h.P ++ mv h.s t h.Q) u) (mv h.s t h.P) + goneN t (outF t (mv h.s t h.P ++ mv h.s t h.Q) u) (mv h.s t h.Q)) _ _ (tidy (keepL t (outF t (mv h.s t h.P ++ mv h.s t h.Q) u) (mv h.s t h.P))) (tidy (keepL t (outF t (mv h.s t h.P ++ mv h.s t h.Q) u) (mv h.s t h.Q))) = HV.mk _ _ (outF t (tidy (mv h.s t h.P) ++ tidy (mv h.s t h.Q)) u) (h.zc + goneN t (outF t (tidy (mv h.s t h.P) ++ tidy (mv h.s t h.Q)) u) (tidy (mv h.s t h.P)) + goneN t (outF t (tidy (mv h.s t h.P) ++ tidy (mv h.s t h.Q)) u) (tidy (mv h.s t h.Q))) _ _ (keepL t (outF t (tidy (mv h.s t h.P) ++ tidy (mv h.s t h.Q)) u) (tidy (mv h.s t h.P))) (keepL t (outF t (tidy (mv h.s t h.P) ++ tidy (mv h.s t h.Q)) u) (tidy (mv h.s t h.Q)))
  rw [e]
  refine HV.eq rfl rfl rfl ?_ rfl rfl ?_ ?_
  · show _ + _ + _ = _ + _ + _
    unfold goneN
    rw [cw_tidy, cw_tidy]
  · exact tidy_filter (o.nP.map _) _
  · exact tidy_filter (o.nQ.map _) _

/-- two made alike, once they are by one schema -/
inductive Alk : HV → HV → HV → HV → Prop
  | done {a b : HV} : a.z = b.z → Alk a b a b
  | step {a b c d : HV} : a.z ≠ b.z → Alk (swF a (max a.z b.z)) (swF b (max a.z b.z)) c d → Alk a b c d
theorem Alk.unique {a b c d c' d' : HV} (h : Alk a b c d) (k : Alk a b c' d') : c = c' ∧ d = d' := by
  induction h with
  | done e => cases k with
    | done _ => exact ⟨rfl, rfl⟩
    | step n _ => exact absurd e n
  | step n _ ih => cases k with
    | done e => exact absurd e n
    | step _ k => exact ih k
theorem Alk.symm {a b c d : HV} (h : Alk a b c d) : Alk b a d c := by
  induction h with
  | done e => exact .done e.symm
  | step n _ ih => exact .step (fun e => n e.symm) (by rw [Int.max_comm]; exact ih)
theorem zr_max {a b : Int} (ha : zr a) (hb : zr b) : zr (max a b) := by unfold zr at *; omega
/-- what one of two is made, when they are made alike -/
structure Cut (a c : HV) : Prop where
  eq : c = cutTo a c.z
  ge : a.z ≤ c.z
  free : Free a.s (a.P ++ a.Q) c.z
theorem keep_keep {s u v : Int} (h : u ≤ v) (l : List (Int × Int)) : keepL s v (keepL s u l) = keepL s v l ∧ goneN s u l + goneN s v (keepL s u l) = goneN s v l := by
  have hG : ∀ i, (G s u i && G s v i) = G s v i := fun i => by unfold G; by_cases h1 : v < un s i <;> simp [h1]; omega
  constructor
  · unfold keepL
    rw [List.filter_filter]
    congr 1
    funext p
    rw [Bool.and_comm]; exact hG p.1
  · have h1 := keep_gone s u l
    have h2 := keep_gone s v l
    have h3 := keep_gone s v (keepL s u l)
    have h4 : cnt (keepL s v (keepL s u l)) = cnt (keepL s v l) := by
      unfold keepL
      rw [List.filter_filter]
      congr 2
      funext p
      rw [Bool.and_comm]; exact hG p.1
    omega
theorem cut_cut {a : HV} {u v : Int} (h : u ≤ v) : cutTo (cutTo a u) v = cutTo a v := by
  obtain ⟨p1, p2⟩ := keep_keep (s := a.s) h a.P
  obtain ⟨q1, q2⟩ := keep_keep (s := a.s) h a.Q
  exact HV.eq rfl rfl rfl (by show a.zc + goneN a.s u a.P + goneN a.s u a.Q + goneN a.s v (keepL a.s u a.P) + goneN a.s v (keepL a.s u a.Q) = a.zc + goneN a.s v a.P + goneN a.s v a.Q; omega) rfl rfl p1 q1
theorem Cut.refl {a : HV} (o : Ok a) : Cut a a := ⟨(cut_self o).symm, Int.le_refl _, o.free⟩
theorem Cut.trans {a b c : HV} (h : Cut a b) (k : Cut b c) : Cut a c := by
  refine ⟨?_, Int.le_trans h.ge k.ge, fun p hp => ?_⟩
  · have := k.eq
    rw [h.eq, cut_cut k.ge] at this
    exact this
  · by_cases hk : G a.s b.z p.1 = true
    · have hm : p ∈ b.P ++ b.Q := by
        rw [h.eq]
        show p ∈ keepL a.s b.z a.P ++ keepL a.s b.z a.Q
        rcases List.mem_append.1 hp with hp | hp
        · exact List.mem_append.2 (.inl (List.mem_filter.2 ⟨hp, hk⟩))
        · exact List.mem_append.2 (.inr (List.mem_filter.2 ⟨hp, hk⟩))
      have hs : b.s = a.s := by rw [h.eq]; rfl
      have := k.free p hm
      rw [hs] at this
      exact this
    · refine .inr ?_
      have := k.ge
      unfold G at hk
      simp at hk
      omega
theorem Cut.sw {a : HV} (o : Ok a) {u : Int} (h : a.z ≤ u) : Cut a (swF a u) := ⟨rfl, Int.le_trans h (sw_ge o u), outF_free o.s _ _⟩
theorem Cut.same {a c : HV} (h : Cut a c) : c.k = a.k ∧ c.s = a.s ∧ c.ct = a.ct ∧ c.sm = a.sm := by rw [h.eq]; exact ⟨rfl, rfl, rfl, rfl⟩
theorem Cut.ok {a c : HV} (o : Ok a) (h : Cut a c) (hz : zr c.z) : Ok c := by
  rw [h.eq]
  exact cut_ok o.toGood o.aP o.aQ o.pP o.pQ o.lP o.lQ hz h.free
theorem Alk.cut {a b c d : HV} (h : Alk a b c d) (oa : Ok a) (ob : Ok b) : Cut a c ∧ Cut b d ∧ Ok c ∧ Ok d ∧ c.z = d.z := by
  induction h with
  | done e => exact ⟨.refl oa, .refl ob, oa, ob, e⟩
  | step n _ ih =>
    have hz := zr_max oa.z ob.z
    obtain ⟨i1, i2, i3, i4, i5⟩ := ih (sw_ok oa hz) (sw_ok ob hz)
    exact ⟨(Cut.sw oa (Int.le_max_left _ _)).trans i1, (Cut.sw ob (Int.le_max_right _ _)).trans i2, i3, i4, i5⟩
end Go.Proofs.YtakomfnajeolcaaGreatDoor


/- Rows of buckets: append of one, of all of another one; slices.Grow of nothing, slices.Concat. -/
namespace Go.Proofs.YtakomfnajeolcaaGreatDoor
open Go.RowKit Go.Sort
set_option linter.unusedVariables false

theorem below_own {W w w' : World} {B : Nat} {v : Value} {e : TypeId} {size n : Nat} {xs : List Value} (h : Below B W w) (hB : B ≤ w.heap.size) (hown : w.ownsRow B e size v n xs) (hg : w.grownBy w' v.ownBlock) : Below B W w' :=
  h.grown hg hB (fun k hk => (hown.lt k hk).1)
theorem ownB_shape {w : World} {base n : Nat} {v : Value} {X : List Value} (h : w.ownsRow base 86 2 v n X) : ∃ A c, v = .slice A n c := by
  rcases h.2 with ⟨rfl, h0⟩ | ⟨g, cap, _, rfl, _⟩
  · exact ⟨none, 0, by rw [h0]⟩
  · exact ⟨_, cap, rfl⟩
theorem bk_none {w : World} {l : List (Int × Int)} (h : Bk w none l) : l = [] := by
  by_cases h0 : l.length = 0
  · exact List.eq_nil_of_length_eq_zero h0
  · obtain ⟨b, off, e, _⟩ := h.some_ (by omega)
    cases e
/-- append(x, s...): x a row of the call's own, s any buckets -/
theorem app_bks {ops : Array Oper} {rest : List Oper} {o : Oper} {a : Act} {w : World} {Q : Exit → Act → World → Prop} (hgd : o.guard = none) (s x : Operand)
    (ho : o.op = .call { callee := .builtin .append, args := #[s, x], argTypes := #[37, 37] })
    (base : Nat) (v : Value) (n : Nat) (X : List (Int × Int)) (hs : a.eval s = v) (hown : w.ownsRow base 86 2 v n (cellsL X))
    (A : Option Addr) (m c : Nat) (l : List (Int × Int)) (hx : a.eval x = .slice A m c) (hm : m = l.length) (hS : Bk w A l) (hl : n + m ≤ 1000000) (hbase : base ≤ w.heap.size)
    (h : ∀ A' c' w', w'.ownsRow base 86 2 (.slice A' (n + m) c') (n + m) (cellsL (X ++ l)) → w.grownBy w' v.ownBlock → wpList Tryz.prog ops Q rest (a.put o.dst (.slice A' (n + m) c')) w') : wpList Tryz.prog ops Q (o :: rest) a w := by
  obtain ⟨i0, hi, hz0, hz1, hz2⟩ := info_parts infoB
  subst hm
  cases A with
  | none =>
    obtain rfl := bk_none hS
    obtain ⟨A', c', rfl⟩ := ownB_shape hown
    refine wpList_plain hgd fun K hK => ?_
    have hrun : (Builtin.append_ #[37, 37] o.type #[.slice A' n c', .slice none 0 c]).run Tryz.prog w = .ok (.slice A' n c') w := by
      rcases hown.2 with ⟨he, hn⟩ | ⟨g, cap, cur, he, _, _, hnc, _⟩
      · rw [he]; simp [Builtin.append_, run_underlying Tryz.underlying37, sizeOf, typeInfo, hi, Builtin.lenOf, Builtin.firstCells]
      · rw [he]; simp [Builtin.append_, run_underlying Tryz.underlying37, sizeOf, typeInfo, hi, Builtin.lenOf, Builtin.firstCells, hnc, storeCells]
    have hh := h A' c' w (by simpa using hown) (World.grownBy.refl w _)
    simp only [List.length_nil, Nat.add_zero] at hh hx
    unfold Oper.wp
    simp [execOp, ho, resolve, invoke, builtin, hs, hx, hrun, Result.andThen]
    exact hK _ _ hh
  | some ad =>
    refine wpList_append_own w hgd s x 37 ho base 86 i0 (.agg #[.int .i64 0, .int .u64 0]) 2 16 Tryz.underlying37 hi hz0 hz1 hz2 rfl (by decide) v n (cellsL X) hs hown ad l.length c (cellsL l) hx (cellsL_length l) (bk_src hS) (cellsL_one l) (by unfold maxLen; omega) (by omega) hbase ?_
    intro v' w' h1 h2 _
    rw [← cellsL_append] at h1
    obtain ⟨A', c', rfl⟩ := ownB_shape h1
    exact h A' c' w' h1 h2
/-- append(x, y) -/
theorem app_bkt {ops : Array Oper} {rest : List Oper} {o : Oper} {a : Act} {w : World} {Q : Exit → Act → World → Prop} (hgd : o.guard = none) (s x : Operand)
    (ho : o.op = .call { callee := .builtin .append, args := #[s, x], argTypes := #[37, 37] })
    (base : Nat) (A : Option Addr) (n c : Nat) (X : List (Int × Int)) (hs : a.eval s = .slice A n c) (hown : w.ownsRow base 86 2 (.slice A n c) n (cellsL X))
    (g : Nat) (hx : a.eval x = .slice (some ⟨g, 0, none⟩) 1 1) (y : (Int × Int)) (hy0 : w.cell? ⟨g, 0, none⟩ = some (.int .i64 y.1)) (hy1 : w.cell? ⟨g, 1, none⟩ = some (.int .u64 y.2)) (hl : n + 1 ≤ 1000000) (hbase : base ≤ w.heap.size)
    (h : ∀ A' c' w', w'.ownsRow base 86 2 (.slice A' (n + 1) c') (n + 1) (cellsL (X ++ [y])) → w.grownBy w' (Value.slice A n c).ownBlock → wpList Tryz.prog ops Q rest (a.put o.dst (.slice A' (n + 1) c')) w') : wpList Tryz.prog ops Q (o :: rest) a w := by
  obtain ⟨i0, hi, hz0, hz1, hz2⟩ := info_parts infoB
  refine wpList_append_own w hgd s x 37 ho base 86 i0 (.agg #[.int .i64 0, .int .u64 0]) 2 16 Tryz.underlying37 hi hz0 hz1 hz2 rfl (by decide) _ n (cellsL X) hs hown ⟨g, 0, none⟩ 1 1 [.int .i64 y.1, .int .u64 y.2] hx rfl ?_ (by simp [Value.oneCell']) (by unfold maxLen; omega) (by omega) hbase ?_
  · intro j u hu
    have hj : j < 2 := (List.getElem?_eq_some_iff.1 hu).1
    rw [addr_at]
    rcases (show j = 0 ∨ j = 1 by omega) with rfl | rfl
    · simp at hu; subst hu; exact hy0
    · simp at hu; subst hu; exact hy1
  · intro v' w' h1 h2 _
    obtain ⟨A', c', rfl⟩ := ownB_shape h1
    have e : cellsL X ++ [.int .i64 y.1, .int .u64 y.2] = cellsL (X ++ [y]) := by rw [cellsL_append]; rfl
    rw [e] at h1
    exact h A' c' w' h1 h2
def GrowP (w : World) (e : Ending) (w' : World) : Prop := ∃ A c, e = .returned (.slice A 0 c) ∧ w'.ownsRow w.heap.size 86 2 (.slice A 0 c) 0 (cellsL []) ∧ Below w.heap.size w w'
set_option maxRecDepth 100000 in
theorem grow_zero (w : World) :
    Calls Tryz.prog 183 #[.slice none 0 0, .int .i64 0] w (GrowP w) := by
  go_enter Tryz.func183, Tryz.ntmps183
  go_wp2_with fail
  go_ret
  exact ⟨none, 0, rfl, World.ownsRow_nil _ _ _ _, Below.refl _ _⟩
set_option maxRecDepth 100000 in
theorem grow_some (n : Nat) (w : World) (h0 : 0 < n) (hn : n ≤ 1000000) :
    Calls Tryz.prog 183 #[.slice none 0 0, .int .i64 (n : Int)] w (GrowP w) := by
  obtain ⟨i0, hi, hz0, hz1, hz2⟩ := info_parts infoB
  have hr := Lib.run_append_nil_zeros (P := Tryz.prog) w 37 3 37 86 i0 (.agg #[.int .i64 0, .int .u64 0]) .i64 .i64 Tryz.underlying37 Tryz.underlying3 hi hz0 n h0 (by omega) (by omega) (by rw [hz2]; omega)
  have HR := Lib.hid hr
  have hni : 0 < (n : Int) := by omega
  have hnm : (n : Int) ≤ 1000000 := by omega
  clear hr
  go_enter Tryz.func183, Tryz.ntmps183
  go_wp2_with (at_builtin; refine Lib.wpList_append_run _ rfl _ _ _ _ rfl _ _ rfl rfl _ _ HR.out ?_)
  go_ret
  have hge := grownCap_ge w n 0 86
  have hle := grownCap_le_maxLen w n 0 86 (by unfold maxLen; omega)
  refine ⟨_, _, rfl, ⟨by simp [cellsL], .inr ⟨w.heap.size, _, _, rfl, Nat.le_refl _, heap_alloc_new w _, by omega, hle, ?_, by simp [cellsL]⟩⟩, Below.drew ((Below.refl _ _).alloc (Nat.le_refl _) _)⟩
  simp [size_zeroCells]
  omega
theorem grow_any (n : Nat) (w : World) (hn : n ≤ 1000000) :
    Calls Tryz.prog 183 #[.slice none 0 0, .int .i64 (n : Int)] w (GrowP w) := by
  by_cases h0 : n = 0
  · subst h0; exact grow_zero w
  · exact grow_some n w (by omega) hn
end Go.Proofs.YtakomfnajeolcaaGreatDoor
