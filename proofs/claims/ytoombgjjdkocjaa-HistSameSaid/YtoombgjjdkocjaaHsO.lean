/- Rising lists are one by what they hold; the law's own example. -/
import Derived.Test.YtoombgjjdkocjaaHsL
import Derived.Test.YtoombgjjdkocjaaHsM
namespace Go.Proofs.Ytoombgjjdkocjaa
open Go.RowKit Go.Sort Go.Maps
set_option linter.unusedVariables false

theorem asc_unique : ∀ {X Y : List (Int × Int)}, Asc X → Asc Y → (∀ p, p ∈ X ↔ p ∈ Y) → X = Y
  | [], [], _, _, _ => rfl
  | [], b :: s, _, _, h => by have := (h b).2 (by simp); simp at this
  | a :: r, [], _, _, h => by have := (h a).1 (by simp); simp at this
  | a :: r, b :: s, h1, h2, h => by
    obtain ⟨a1, a2⟩ := List.pairwise_cons.1 h1
    obtain ⟨b1, b2⟩ := List.pairwise_cons.1 h2
    have hab : a = b := by
      rcases List.mem_cons.1 ((h a).1 (by simp)) with e | ha
      · exact e
      · rcases List.mem_cons.1 ((h b).2 (by simp)) with e | hb
        · exact e.symm
        · have x1 := a1 b hb
          have x2 := b1 a ha
          omega
    subst hab
    rw [asc_unique a2 b2 (fun p => ⟨fun hp => by
      rcases List.mem_cons.1 ((h p).1 (by simp [hp])) with e | hp'
      · have := a1 p hp
        rw [e] at this
        omega
      · exact hp', fun hp => by
      rcases List.mem_cons.1 ((h p).2 (by simp [hp])) with e | hp'
      · have := b1 p hp
        rw [e] at this
        omega
      · exact hp'⟩)]
theorem side_unique {f g : F3} {sc s sc' s' : Int} {X Y : List (Int × Int)} (aX : Asc X) (aY : Asc Y) (hX : Side f sc s X) (hY : Side g sc' s' Y) (h : ∀ i, I64 i → f s sc i = g s' sc' i) : X = Y := by
  refine asc_unique aX aY fun ⟨i, n⟩ => ?_
  constructor
  · intro hm
    have hi := hX.2.1 _ hm
    rw [hY.2.2 i n hi, ← h i hi]
    exact (hX.2.2 i n hi).1 hm
  · intro hm
    have hi := hY.2.1 _ hm
    rw [hX.2.2 i n hi, h i hi]
    exact (hY.2.2 i n hi).1 hm
/-- an index's count in a rising list -/
theorem atI_none {l : List (Int × Int)} {i : Int} (h : ∀ p ∈ l, p.1 ≠ i) : atI l i = 0 := by
  induction l with
  | nil => rfl
  | cons a r ih =>
    have h1 := h a (by simp)
    simp [atI, h1, ih (fun p hp => h p (by simp [hp]))]
theorem atI_asc {l : List (Int × Int)} (ha : Asc l) {i n : Int} (hm : (i, n) ∈ l) : atI l i = n := by
  induction l with
  | nil => simp at hm
  | cons a r ih =>
    obtain ⟨a1, a2⟩ := List.pairwise_cons.1 ha
    rcases List.mem_cons.1 hm with e | hm'
    · subst e
      rw [atI, if_pos rfl, atI_none (fun p hp => by have := a1 p hp; omega)]
      omega
    · have := a1 _ hm'
      rw [atI, if_neg (by omega), ih a2 hm']
      omega
/-- a rising list without empty buckets is the side of itself -/
theorem side_self {sc : Int} {P Q : List (Int × Int)} (hP : Asc P) (hw : ∀ p ∈ P, Wb p) (h0 : ∀ p ∈ P, p.2 ≠ 0) (k : Nat) (hk : k = 0) : Side (gF sc P Q) sc 1 P := by
  refine ⟨?_, fun p hp => ⟨(hw p hp).1, (hw p hp).2.1⟩, fun i n hi => ?_⟩
  · rw [List.Nodup, List.pairwise_map]
    exact hP.imp (fun h => by omega)
  · simp only [gF, if_true]
    constructor
    · intro hm
      exact ⟨(atI_asc hP hm).symm, h0 _ hm⟩
    · rintro ⟨e, hn⟩
      by_cases h : ∃ p ∈ P, p.1 = i
      · obtain ⟨p, hp, rfl⟩ := h
        have := atI_asc hP (i := p.1) (n := p.2) hp
        rw [e, this]
        exact hp
      · rw [atI_none (fun p hp e => h ⟨p, hp, e⟩)] at e
        exact absurd e hn
theorem side_self2 {sc : Int} {P Q : List (Int × Int)} (hP : Asc Q) (hw : ∀ p ∈ Q, Wb p) (h0 : ∀ p ∈ Q, p.2 ≠ 0) : Side (gF sc P Q) sc (-1) Q := by
  have h := side_self (sc := sc) (Q := []) hP hw h0 0 rfl
  refine ⟨h.1, h.2.1, fun i n hi => ?_⟩
  rw [h.2.2 i n hi]
  simp [gF]

theorem wbL {l : List (Int × Int)} (h : l.all (fun p => decide (-9223372036854775808 ≤ p.1) && decide (p.1 ≤ 9223372036854775807) && decide (0 ≤ p.2) && decide (p.2 ≤ 18446744073709551615)) = true) : ∀ p ∈ l, Wb p := by
  intro p hp
  have := List.all_eq_true.1 h p hp
  simp at this
  exact ⟨this.1.1.1, this.1.1.2, this.1.2, this.2⟩
theorem aw_side {X : List (Int × Int)} (ha : Asc X) (h : Side (gF 0 [(3, 2), (1, 1)] []) 0 1 X) : X = [(1, 1), (3, 2)] := by
  have a2 : Asc [((1 : Int), (1 : Int)), (3, 2)] := by unfold Asc; simp
  refine side_unique ha a2 h (side_self (sc := 0) (Q := []) a2 (wbL (by decide)) (by simp) 0 rfl) fun i _ => ?_
  simp only [gF, if_true, atI]
  omega
theorem aw_side2 {Y : List (Int × Int)} (h : Side (gF 0 [(3, 2), (1, 1)] []) 0 (-1) Y) : Y = [] := by
  refine List.eq_nil_iff_forall_not_mem.2 fun ⟨i, n⟩ hm => ?_
  have hi := h.2.1 _ hm
  have := (h.2.2 i n hi).1 hm
  simp [gF, atI] at this
theorem aw_check : checkF 0 0 (-524288) 0 3 [(1, 1), (3, 2)] [] = 0 := by decide +kernel
set_option maxHeartbeats 1000000 in
set_option maxRecDepth 100000 in
theorem awake05 (w : World) : Calls Try.prog 9 #[] w fun e w' => e = .returned (.bool true) ∧ Below w.heap.size w w' := by
  go_enter Try.func9, Try.ntmps9
  go_wp2_with fail
  refine (empty_any 0 0 _).mono ?_
  rintro e w1 ⟨rfl, hb1⟩
  have HB1 := Lib.hid hb1
  clear hb1
  go_wp2_with fail
  refine (make_any 0 0 (-524288) 0 0 0 none none (some ⟨w1.heap.size, 0, none⟩) none 0 0 0 0 2 0 [(3, 2), (1, 1)] [] _ ⟨by decide, by decide⟩ (by decide) (by decide) ?_ (Bk.nil _ _) (by simp) (by simp)).mono ?_
  · refine ⟨by simp, wbL (by decide), .inr ⟨w1.heap.size, 0, rfl, fun j p hj => ?_⟩⟩
    match j, hj with
    | 0, hj => simp at hj; subst hj; simp [go_sem]
    | 1, hj => simp at hj; subst hj; simp [go_sem]
  · rintro e w2 ⟨hb2, h⟩
    have hc : cnt ([(3, 2), (1, 1)] ++ []) = 3 := by decide
    rw [hc] at h
    rcases h with ⟨h, _⟩ | ⟨_, A, C, c, d, X, Y, hX, hY, aX, aY, sX, sY, hl, _, _, h⟩
    · exact absurd h (by decide)
    · obtain rfl := aw_side aX sX
      obtain rfl := aw_side2 sY
      rcases h with ⟨h, _⟩ | ⟨_, rfl⟩
      · exact absurd aw_check h
      · obtain ⟨b, off, rfl, hcell⟩ := hX.some_ (by simp)
        obtain ⟨p1, p2⟩ := hcell 0 (1, 1) rfl
        simp only [Nat.zero_mul, Nat.add_zero] at p1 p2
        have hblt := block_lt_of_cell p1
        simp only at hblt
        have HB2 := Lib.hid hb2
        have heq := eqlB 1 1 1 1
        have hgd := guardB
        simp only [beq_self_eq_true, Bool.and_self] at heq
        clear hX hY aX aY sX sY hl hb2 hc hcell
        simp only [List.length_cons, List.length_nil, Int.zero_add]
        go_wp2_with fail
        go_ret
        have h1 := HB1.out.alloc HB1.out.size (.cells #[.int .i64 3, .int .u64 2, .int .i64 1, .int .u64 1] 35)
        have h2 := h1.trans (HB2.out.mono h1.size)
        exact ⟨rfl, h2.alloc h2.size _⟩
end Go.Proofs.Ytoombgjjdkocjaa
