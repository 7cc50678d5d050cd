/- The law HistSame: two histograms whose cells are alike are one, by plain lists. -/
import Derived.Test.YtoombgjjdkocjaaHsCa
import Derived.Test.YtoombgjjdkocjaaHsR
import Derived.Test.YtoombgjjdkocjaaHsZ
import Derived.Test.YtoombgjjdkocjaaHsN
namespace Go.Proofs.Ytoombgjjdkocjaa
open Go.RowKit Go.Sort Go.Maps
set_option linter.unusedVariables false

theorem asc_atI {X Y : List (Int × Int)} (aX : Asc X) (aY : Asc Y) (nX : ∀ p ∈ X, 0 < p.2) (nY : ∀ p ∈ Y, 0 < p.2) (h : ∀ i, atI X i = atI Y i) : X = Y := by
  have half : ∀ {U V : List (Int × Int)}, Asc U → Asc V → (∀ p ∈ U, 0 < p.2) → (∀ i, atI U i = atI V i) → ∀ p ∈ U, p ∈ V := by
    intro U V aU aV nU hUV p hp
    have e := atI_asc aU (show (p.1, p.2) ∈ U from hp)
    have h1 := nU _ hp
    rw [hUV] at e
    obtain ⟨q, hq, hqi⟩ := atI_some (l := V) (i := p.1) (by omega)
    have e2 := atI_asc aV (show (q.1, q.2) ∈ V from hq)
    rw [hqi, e] at e2
    have hpq : p = q := Prod.ext hqi.symm e2
    rw [hpq]
    exact hq
  exact asc_unique aX aY fun p => ⟨half aX aY nX h p, half aY aX nY (fun i => (h i).symm) p⟩
theorem sub_full : ∀ {K1 K2 : List K3}, K1.Nodup → (∀ x ∈ K1, x ∈ K2) → K2.length ≤ K1.length → ∀ x ∈ K2, x ∈ K1 := by
  intro K1
  induction K1 with
  | nil =>
    intro K2 _ _ hl x hx
    have : K2 = [] := List.length_eq_zero_iff.1 (by simpa using hl)
    rw [this] at hx
    cases hx
  | cons a r ih =>
    intro K2 hn hs hl x hx
    obtain ⟨n1, n2⟩ := List.nodup_cons.1 hn
    by_cases hxa : x = a
    · rw [hxa]; simp
    · have hmem : a ∈ K2 := hs a (by simp)
      have hle : (K2.erase a).length ≤ r.length := by
        rw [List.length_erase_of_mem hmem]
        simp at hl
        omega
      have h1 := ih (K2 := K2.erase a) n2 (fun y hy => (List.mem_erase_of_ne (fun e => n1 (by rw [← e]; exact hy))).2 (hs y (by simp [hy]))) hle x ((List.mem_erase_of_ne hxa).2 hx)
      simp [h1]
/-- alike key by key, and as many: one -/
theorem same_cells {s zc zc' : Int} {P Q P' Q' : List (Int × Int)} (aP : Asc P) (aQ : Asc Q) (aP' : Asc P') (aQ' : Asc Q') (nP : ∀ p ∈ P, 0 < p.2) (nQ : ∀ p ∈ Q, 0 < p.2) (nP' : ∀ p ∈ P', 0 < p.2) (nQ' : ∀ p ∈ Q', 0 < p.2) (z0 : 0 ≤ zc) (z0' : 0 ≤ zc')
    (hlen : (keysF s zc P Q).length = (keysF s zc' P' Q').length) (hall : ∀ k ∈ keysF s zc P Q, cF s zc' P' Q' k.1 k.2.1 k.2.2 = cF s zc P Q k.1 k.2.1 k.2.2) : zc = zc' ∧ P = P' ∧ Q = Q' := by
  have pos := keys_pos (s := s) (zc := zc) aP aQ z0 nP nQ
  have hsub : ∀ k ∈ keysF s zc P Q, k ∈ keysF s zc' P' Q' := fun k hk => (keys_mem (by rw [hall k hk]; exact Int.ne_of_gt (pos k hk))).1
  have hback := sub_full (keys_nodup aP aQ) hsub (Nat.le_of_eq hlen.symm)
  have heq : ∀ a c i, cF s zc P Q a c i = cF s zc' P' Q' a c i := by
    intro a c i
    by_cases h1 : cF s zc P Q a c i = 0
    · by_cases h2 : cF s zc' P' Q' a c i = 0
      · rw [h1, h2]
      · have hk := hback _ (keys_mem h2).1
        have := pos _ hk
        simp only at this
        omega
    · exact (hall _ (keys_mem h1).1).symm
  refine ⟨?_, asc_atI aP aP' nP nP' (fun i => ?_), asc_atI aQ aQ' nQ nQ' (fun i => ?_)⟩
  · have h := heq 0 0 0
    rw [cF_val, cF_val] at h
    simpa using h
  · have h := heq 1 s i
    rw [cF_val, cF_val] at h
    simpa using h
  · have h := heq (-1) s i
    rw [cF_val, cF_val] at h
    simpa using h
theorem isameN (k s z zc ct sm k' s' z' zc' ct' sm' : Int) (A B A' B' : Option Addr) (c d c' d' : Nat) (P Q P' Q' : List (Int × Int)) (w : World) (hP : Bk w A P) (hQ : Bk w B Q) (hP' : Bk w A' P') (hQ' : Bk w B' Q') (v : Bool) (hv : sameF k s z zc ct sm k' s' z' zc' ct' sm' P Q P' Q' = v) :
    Calls Try.prog 12 #[.agg #[.int .i64 k, .int .i64 s, .int .i64 z, .int .u64 zc, .int .u64 ct, .int .i64 sm, .slice A P.length c, .slice B Q.length d], .agg #[.int .i64 k', .int .i64 s', .int .i64 z', .int .u64 zc', .int .u64 ct', .int .i64 sm', .slice A' P'.length c', .slice B' Q'.length d']] w fun e w' => e = .returned (.bool v) ∧ Below w.heap.size w w' := by
  rw [← hv]
  exact isame_any k s z zc ct sm k' s' z' zc' ct' sm' A B A' B' c d c' d' P Q P' Q' w hP hQ hP' hQ'
theorem rsameN (k s z zc ct sm k' s' z' zc' ct' sm' : Int) (A B A' B' : Option Addr) (c d c' d' : Nat) (P Q P' Q' : List (Int × Int)) (w : World) (hP : Bk w A P) (hQ : Bk w B Q) (hP' : Bk w A' P') (hQ' : Bk w B' Q') (v : Bool) (hv : sameF k s z zc ct sm k' s' z' zc' ct' sm' P Q P' Q' = v) :
    Calls Try.prog 13 #[.agg #[.int .i64 k, .int .i64 s, .int .i64 z, .int .u64 zc, .int .u64 ct, .int .i64 sm, .slice A P.length c, .slice B Q.length d], .agg #[.int .i64 k', .int .i64 s', .int .i64 z', .int .u64 zc', .int .u64 ct', .int .i64 sm', .slice A' P'.length c', .slice B' Q'.length d']] w fun e w' => e = .returned (.bool v) ∧ Below w.heap.size w w' := by
  rw [← hv]
  exact rsame_any k s z zc ct sm k' s' z' zc' ct' sm' A B A' B' c d c' d' P Q P' Q' w hP hQ hP' hQ'
end Go.Proofs.Ytoombgjjdkocjaa
