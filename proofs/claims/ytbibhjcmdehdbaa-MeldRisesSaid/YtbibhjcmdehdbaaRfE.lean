/- The document's coarse: a side by a coarser schema. -/
import Derived.Test.YtbibhjcmdehdbaaMdC
import Derived.Test.YtbibhjcmdehdbaaHsB
import Derived.Lib.Hide
import Derived.Test.YtbibhjcmdehdbaaMdV
import Derived.Test.YtbibhjcmdehdbaaHsQ
import Derived.Test.YtbibhjcmdehdbaaMdD
/-! The document's within and At. -/
namespace Go.Proofs.Ytbibhjcmdehdbaa
open Go.RowKit Go.Sort
set_option linter.unusedVariables false

/-- a place within a bucket of a side: where that ends; else the place -/
def wiF (s u : Int) : List (Int × Int) → Int
  | [] => u
  | p :: r => if un s (p.1 - 1) < u ∧ u < un s p.1 then un s p.1 else wiF s u r
theorem drop_at {α : Type} {l : List α} {k : Nat} {x : α} (h : l[k]? = some x) : l.drop k = x :: l.drop (k + 1) := by
  obtain ⟨hk, e⟩ := List.getElem?_eq_some_iff.1 h
  rw [List.drop_eq_getElem_cons hk, e]
theorem un_bound {s i : Int} (h : inB s i = true) (hs : rightB s = true) : (-9223372036854775808 ≤ un s i ∧ un s i ≤ 9223372036854775807) ∧ (-9223372036854775808 ≤ un s (i - 1) ∧ un s (i - 1) ≤ 9223372036854775807) ∧ -262144 < i ∧ i ≤ 262144 := by
  obtain ⟨b1, b2⟩ := in_bd h
  obtain ⟨a1, a2⟩ := un_bd (i := i) hs 262145 (by omega) (by omega)
  obtain ⟨c1, c2⟩ := un_bd (i := i - 1) hs 262145 (by omega) (by omega)
  omega
set_option maxHeartbeats 1000000 in
set_option maxRecDepth 100000 in
theorem within_any (s u : Int) (A : Option Addr) (c : Nat) (l : List (Int × Int)) (w : World) (hs : rightB s = true) (hl : Bk w A l) (hi : ∀ p ∈ l, inB s p.1 = true) (hn : l.length ≤ 1000) :
    Calls Try.prog 123 #[.int .i64 s, .slice A l.length c, .int .i64 u] w fun e w' => e = .returned (.int .i64 (wiF s u l)) ∧ w = w' := by
  have HL := Lib.hid hl
  have HI := Lib.hid hi
  have HS := Lib.hid hs
  have hlen : (l.length : Int) ≤ 1000 := by omega
  clear hl hi hs
  go_enter Try.func123, Try.ntmps123
  go_wp2_with fail
  go_loopw [7] (fun i wr => ∃ k : Nat, k ≤ l.length ∧ i = .int .i64 k ∧ Hid (wiF s u (l.drop k) = wiF s u l) ∧ w = wr) (fun i _ => l.length - (intOf i).toNat)
  case atStart => exact ⟨0, by omega, rfl, Lib.hid rfl, rfl⟩
  case round =>
    obtain ⟨k, hk, rfl, HF, rfl⟩ := hrel
    by_cases hlt : k < l.length
    · have hki : (k : Int) < (l.length : Int) := by omega
      obtain ⟨b, off, rfl, hc⟩ := HL.out.some_ (by omega)
      obtain ⟨p, hp⟩ := getElem?_lt hlt
      obtain ⟨p1, p2⟩ := hc k p hp
      obtain ⟨⟨n1, n2⟩, ⟨n3, n4⟩, n5, n6⟩ := un_bound (HI.out p (mem_of_at hp)) HS.out
      have HD := Lib.hid (drop_at hp)
      obtain ⟨pi, pc⟩ := p
      simp only at p1 p2 n1 n2 n3 n4 n5 n6
      clear hc hp
      by_cases h1 : un s (pi - 1) < u
      · have d1 : decide (un s (pi - 1) < u) = true := by simpa using h1
        by_cases h2 : u < un s pi
        · have d2 : decide (u < un s pi) = true := by simpa using h2
          have HE := Lib.hid (show un s pi = wiF s u l by rw [← HF.out, HD.out]; unfold wiF; rw [if_pos ⟨h1, h2⟩])
          clear h1 h2
          go_wp2_with (go_at_call 80; refine (refunits_yes _ _ _ HS.out (by assumption) (by assumption)).mono ?_; rintro e w' ⟨rfl, rfl⟩)
          go_ret
          exact ⟨ret_int HE.out, rfl⟩
        · have d2 : decide (u < un s pi) = false := by simpa using h2
          have HE := Lib.hid (show wiF s u (l.drop (k + 1)) = wiF s u l by rw [← HF.out, HD.out]; conv => rhs; unfold wiF; rw [if_neg (fun h => h2 h.2)])
          clear h1 h2
          go_wp2_with (go_at_call 80; refine (refunits_yes _ _ _ HS.out (by assumption) (by assumption)).mono ?_; rintro e w' ⟨rfl, rfl⟩)
          go_roundw
          case rel => exact ⟨k + 1, by omega, by go_num, HE, by first | rfl | trivial⟩
          case measure => simp [intOf]; omega
      · have d1 : decide (un s (pi - 1) < u) = false := by simpa using h1
        have HE := Lib.hid (show wiF s u (l.drop (k + 1)) = wiF s u l by rw [← HF.out, HD.out]; conv => rhs; unfold wiF; rw [if_neg (fun h => h1 h.1)])
        clear h1
        go_wp2_with (go_at_call 80; refine (refunits_yes _ _ _ HS.out (by assumption) (by assumption)).mono ?_; rintro e w' ⟨rfl, rfl⟩)
        go_roundw
        case rel => exact ⟨k + 1, by omega, by go_num, HE, by first | rfl | trivial⟩
        case measure => simp [intOf]; omega
    · obtain rfl : k = l.length := by omega
      have hki : ¬ ((l.length : Int) < (l.length : Int)) := by omega
      have HE := Lib.hid (show u = wiF s u l by rw [← HF.out, List.drop_length]; rfl)
      go_wp2_with fail
      go_ret
      exact ⟨ret_int HE.out, rfl⟩
set_option maxHeartbeats 1000000 in
set_option maxRecDepth 100000 in
theorem refat_any (i : Int) (A : Option Addr) (c : Nat) (l : List (Int × Int)) (w : World) (hl : Bk w A l) (ha : Asc l) :
    Calls Try.prog 94 #[.slice A l.length c, .int .i64 i] w fun e w' => e = .returned (.int .u64 (atI l i)) ∧ w = w' := by
  have HL := Lib.hid hl
  have HA := Lib.hid ha
  have hlen : (l.length : Int) ≤ 9223372036854775807 := by have := hl.1; omega
  clear hl ha
  go_enter Try.func94, Try.ntmps94
  go_wp2_with fail
  go_loopw [5] (fun j wr => ∃ k : Nat, k ≤ l.length ∧ j = .int .i64 k ∧ Hid (∀ p ∈ l.take k, p.1 ≠ i) ∧ w = wr) (fun j _ => l.length - (intOf j).toNat)
  case atStart => exact ⟨0, by omega, rfl, Lib.hid (by simp), rfl⟩
  case round =>
    obtain ⟨k, hk, rfl, HF, rfl⟩ := hrel
    by_cases hlt : k < l.length
    · have hki : (k : Int) < (l.length : Int) := by omega
      obtain ⟨b, off, rfl, hc⟩ := HL.out.some_ (by omega)
      obtain ⟨p, hp⟩ := getElem?_lt hlt
      obtain ⟨p1, p2⟩ := hc k p hp
      have HM := Lib.hid (mem_of_at hp)
      have HT := Lib.hid (take_snoc l k p hp)
      obtain ⟨pi, pc⟩ := p
      simp only at p1 p2
      clear hc hp
      by_cases h1 : pi = i
      · subst h1
        have HE := Lib.hid (show pc = atI l pi from (atI_asc HA.out HM.out).symm)
        have hv : (pi == pi) = true := by simp
        go_wp2_with fail
        go_ret
        exact ⟨congrArg (fun v => Ending.returned (Value.int .u64 v)) HE.out, rfl⟩
      · have d1 : (pi == i) = false := by simpa using h1
        have HE := Lib.hid (show ∀ p ∈ l.take (k + 1), p.1 ≠ i by
          rw [HT.out]
          intro p hp
          rcases List.mem_append.1 hp with hp | hp
          · exact HF.out p hp
          · rw [List.mem_singleton.1 hp]; exact h1)
        clear h1
        go_wp2_with fail
        go_roundw
        case rel => exact ⟨k + 1, by omega, by go_num, HE, by first | rfl | trivial⟩
        case measure => simp [intOf]; omega
    · obtain rfl : k = l.length := by omega
      have hki : ¬ ((l.length : Int) < (l.length : Int)) := by omega
      have HE := Lib.hid (show atI l i = 0 from atI_none (fun p hp => HF.out p (by rw [List.take_length]; exact hp)))
      go_wp2_with fail
      go_ret
      exact ⟨congrArg (fun v => Ending.returned (Value.int .u64 v)) HE.out.symm, rfl⟩
end Go.Proofs.Ytbibhjcmdehdbaa

/-! The document's places, swallowing, made alike: plain data. -/
namespace Go.Proofs.Ytbibhjcmdehdbaa
open Go.RowKit Go.Sort
set_option linter.unusedVariables false

theorem wi_iff {s u i : Int} (h : rightB s = true) : (un s (i - 1) < u ∧ u < un s i) ↔ (i = cl s u ∧ u ≠ un s (cl s u)) := by
  have h1 := un_lt (u := u) h (i := i - 1)
  have h2 := un_lt (u := u) h (i := i)
  have h3 := un_cl_le h u
  constructor
  · rintro ⟨a, b⟩
    have e1 := h1.1 a
    have e2 : ¬ i < cl s u := fun hh => by have := h2.2 hh; omega
    have e3 : i = cl s u := by omega
    exact ⟨e3, by rw [← e3]; omega⟩
  · rintro ⟨rfl, hne⟩
    exact ⟨h1.2 (by omega), by omega⟩
theorem wi_out {s u : Int} (h : rightB s = true) (l : List (Int × Int)) : wiF s u l = outF s l u := by
  induction l with
  | nil => unfold wiF outF; simp [hasI]
  | cons p r ih =>
    unfold wiF
    have hi := wi_iff (u := u) (i := p.1) h
    have hc : hasI (p :: r) (cl s u) = (p.1 == cl s u || hasI r (cl s u)) := by unfold hasI; rw [List.any_cons]
    by_cases hp : un s (p.1 - 1) < u ∧ u < un s p.1
    · obtain ⟨e, hne⟩ := hi.1 hp
      rw [if_pos hp]
      unfold outF
      rw [if_pos ⟨by rw [hc, e]; simp, hne⟩, ← e]
    · rw [if_neg hp, ih]
      have hn : ¬ (p.1 = cl s u ∧ u ≠ un s (cl s u)) := fun hh => hp (hi.2 hh)
      unfold outF
      by_cases hne : u ≠ un s (cl s u)
      · have e : (p.1 == cl s u) = false := by simpa using fun e => hn ⟨e, hne⟩
        rw [hc, e, Bool.false_or]
      · rw [if_neg (fun hh => hne hh.2), if_neg (fun hh => hne hh.2)]
theorem out_app {s u : Int} (h : rightB s = true) (P Q : List (Int × Int)) : outF s (P ++ Q) u = max (outF s P u) (outF s Q u) := by
  have h3 := un_cl_le h u
  have hc : hasI (P ++ Q) (cl s u) = (hasI P (cl s u) || hasI Q (cl s u)) := by unfold hasI; rw [List.any_append]
  unfold outF
  rw [hc]
  by_cases hne : u ≠ un s (cl s u)
  · cases hasI P (cl s u) <;> cases hasI Q (cl s u) <;> simp [hne] <;> omega
  · simp [hne]
end Go.Proofs.Ytbibhjcmdehdbaa

/-! The document's off: a side less another one. -/
namespace Go.Proofs.Ytbibhjcmdehdbaa
open Go.RowKit Go.Sort
set_option linter.unusedVariables false

theorem atI_pos {l : List (Int × Int)} (n : Nn l) (i : Int) : atI (l.filter fun p => decide (0 < p.2)) i = atI l i := by
  induction l with
  | nil => rfl
  | cons p r ih =>
    have hp := n p (by simp)
    have hr := ih (fun q hq => n q (by simp [hq]))
    by_cases h : 0 < p.2
    · rw [List.filter_cons, if_pos (by simpa using h), atI, atI, hr]
    · rw [List.filter_cons, if_neg (by simpa using h), hr, atI]; split <;> omega
theorem tidy_filter_pos {l : List (Int × Int)} (a : Asc l) (n : Nn l) : (l.filter fun p => decide (0 < p.2)) = tidy l := by
  refine asc_ext (asc_filter a _) (tidy_asc _) (fun p hp => by simpa using (List.mem_filter.1 hp).2) (tidy_pos n) fun i => ?_
  rw [atI_pos n, atI_tidy]
theorem new_twoB (w : World) (u v : Value) (t : TypeId) : (w.alloc (.cells #[u, v] t)).cell? ⟨w.heap.size, 0, none⟩ = some u ∧ (w.alloc (.cells #[u, v] t)).cell? ⟨w.heap.size, 1, none⟩ = some v := by
  obtain ⟨a, b⟩ := box2 (heap_alloc_new w (.cells #[u, v] t))
  exact ⟨a, b⟩
def OffP (w : World) (P Q : List (Int × Int)) (e : Ending) (w' : World) : Prop :=
  (lessB P Q = false ∧ e = .returned (.tuple #[.slice none 0 0, .bool false]) ∧ Below w.heap.size w w') ∨
  (lessB P Q = true ∧ ∃ A c, e = .returned (.tuple #[.slice A (tidy (subL P Q)).length c, .bool true]) ∧ Bk w' A (tidy (subL P Q)) ∧ Below w.heap.size w w' ∧ NewA w A)
def offL (P Q : List (Int × Int)) : List (Int × Int) := (subL P Q).filter fun p => decide (0 < p.2)
theorem offL_snoc (P Q : List (Int × Int)) (p : Int × Int) : (0 < p.2 - atI Q p.1 → offL (P ++ [p]) Q = offL P Q ++ [(p.1, p.2 - atI Q p.1)]) ∧ (¬ 0 < p.2 - atI Q p.1 → offL (P ++ [p]) Q = offL P Q) := by
  unfold offL subL
  constructor
  · intro h
    rw [List.map_append, List.filter_append]
    simp; omega
  · intro h
    rw [List.map_append, List.filter_append]
    simp; omega
theorem offL_length (P Q : List (Int × Int)) : (offL P Q).length ≤ P.length := by
  have := List.length_filter_le (fun p => decide (0 < p.2)) (subL P Q)
  rw [subL_length] at this
  exact this
theorem subL_nnB {P Q : List (Int × Int)} (h : ∀ p ∈ P, atI Q p.1 ≤ p.2) : Nn (subL P Q) := fun p hp => by
  obtain ⟨q, hq, rfl⟩ := List.mem_map.1 hp
  have := h q hq
  show 0 ≤ q.2 - atI Q q.1
  omega
set_option maxHeartbeats 3000000 in
set_option maxRecDepth 100000 in
theorem refoff_any (A B : Option Addr) (c d : Nat) (P Q : List (Int × Int)) (w : World) (hP : Bk w A P) (hQ : Bk w B Q) (aP : Asc P) (aQ : Asc Q) (nP : Nn P) (pQ : Pos Q) (lP : P.length ≤ 1000) (lQ : Q.length ≤ 1000) :
    Calls Try.prog 54 #[.slice A P.length c, .slice B Q.length d] w (OffP w P Q) := by
  have HP := Lib.hid hP
  have HQ := Lib.hid hQ
  have HA := Lib.hid (And.intro aP aQ)
  have HN := Lib.hid (And.intro nP pQ)
  have hlen : (Q.length : Int) ≤ 1000 := by omega
  have hlen2 : (P.length : Int) ≤ 1000 := by omega
  clear hP hQ aP aQ nP pQ
  go_enter Try.func54, Try.ntmps54
  go_wp2_with fail
  go_loopw [6] (fun i wr => ∃ j : Nat, j ≤ Q.length ∧ i = .int .i64 j ∧ Hid (∀ q ∈ Q.take j, q.2 ≤ atI P q.1) ∧ ∃ n, wr = w.drewN n) (fun i _ => Q.length - (intOf i).toNat)
  case atStart => exact ⟨0, by omega, rfl, Lib.hid (by simp), 0, rfl⟩
  case round =>
    obtain ⟨j, hj, rfl, HF, nd, rfl⟩ := hrel
    by_cases hlt : j < Q.length
    · have hki : (j : Int) < (Q.length : Int) := by omega
      obtain ⟨b, off, rfl, hc⟩ := HQ.out.some_ (by omega)
      obtain ⟨q, hq⟩ := getElem?_lt hlt
      obtain ⟨q1, q2⟩ := hc j q hq
      have HT := Lib.hid (take_snoc Q j q hq)
      have HM := Lib.hid (mem_of_at hq)
      obtain ⟨qi, qc⟩ := q
      simp only at q1 q2
      clear hc hq
      by_cases hcm : atI P qi < qc
      · have d1 : decide (atI P qi < qc) = true := by simpa using hcm
        have HL := Lib.hid (show lessB P Q = false from lessB_no HM.out (by simp only; omega))
        clear hcm
        go_wp2_with fail
        go_quiet ((go_at_call 94; first | exact stays rfl (refat_any _ _ _ _ _ (HP.out.drewN _) HA.out.1) | exact stays rfl (refat_any _ _ _ _ _ ((HP.out.drewN _).drewN _) HA.out.1)))
        go_wp2_with fail
        go_ret2
        exact .inl ⟨HL.out, rfl, by first | exact below_drewN (Below.refl _ _) _ | exact below_drewN (below_drewN (Below.refl _ _) _) _⟩
      · have d1 : decide (atI P qi < qc) = false := by simpa using hcm
        have HF2 := Lib.hid (show ∀ q ∈ Q.take (j + 1), q.2 ≤ atI P q.1 from by rw [HT.out]; exact all_snoc HF.out (by simp only; omega))
        clear hcm
        go_wp2_with fail
        go_quiet ((go_at_call 94; first | exact stays rfl (refat_any _ _ _ _ _ (HP.out.drewN _) HA.out.1) | exact stays rfl (refat_any _ _ _ _ _ ((HP.out.drewN _).drewN _) HA.out.1)))
        go_wp2_with fail
        go_roundw
        case rel => exact ⟨j + 1, by omega, by go_num, HF2, by first | exact ⟨_, rfl⟩ | exact ⟨_, by rw [World.drewN_drewN]⟩⟩
        case measure => simp [intOf]; omega
    · obtain rfl : j = Q.length := by omega
      have hki : ¬ ((Q.length : Int) < (Q.length : Int)) := by omega
      have hF := HF.out
      rw [List.take_length] at hF
      have H3 := Lib.hid (lessB_yes hF)
      have HLA := Lib.hid (less_all HA.out.1 HN.out.1 HA.out.2 hF)
      clear hF HF
      go_wp2_with fail
      go_loopw [7, 8] (fun v i wr => ∃ (k : Nat) (A1 : Option Addr) (c1 : Nat) (X : List (Int × Int)), k ≤ P.length ∧ i = .int .i64 k ∧ v = .slice A1 X.length c1 ∧ Hid (X = offL (P.take k) Q) ∧ Hid (OwnC w wr A1 c1 X)) (fun _ i _ => P.length - (intOf i).toNat)
      case atStart => exact ⟨0, none, 0, [], by omega, rfl, rfl, Lib.hid rfl, Lib.hid ⟨World.ownsRow_nil _ _ _ _, below_drewN (Below.refl _ _) _⟩⟩
      case round =>
        obtain ⟨k, A1, c1, X, hk, rfl, rfl, HX, HO⟩ := hrel
        by_cases hlt : k < P.length
        · have hki : (k : Int) < (P.length : Int) := by omega
          obtain ⟨b, off, rfl, hc⟩ := (HP.out.below HO.out.2).some_ (by omega)
          obtain ⟨p, hp⟩ := getElem?_lt hlt
          obtain ⟨q1, q2⟩ := hc k p hp
          have HS := Lib.hid (offL_snoc (P.take k) Q p)
          have HT := Lib.hid (take_snoc P k p hp)
          have hw := (HP.out.2.1 p (mem_of_at hp)).2.2
          have hle := HLA.out p (mem_of_at hp)
          have hnn := (HN.out.2.nn.at p.1).1
          have hx : X.length ≤ 1000 := by
            rw [HX.out]
            have := offL_length (P.take k) Q
            rw [List.length_take] at this
            omega
          obtain ⟨pi, pc⟩ := p
          simp only at q1 q2 HS hw hle hnn
          have hlb := block_lt_of_cell q1
          simp only at hlb
          have HQ2 := Lib.hid (HQ.out.below HO.out.2)
          clear hc hp
          obtain ⟨at_, hat⟩ : ∃ x, atI Q pi = x := ⟨_, rfl⟩
          have HAT := Lib.hid hat
          rw [hat] at hle hnn
          obtain ⟨D, hD⟩ : ∃ D, pc - at_ = D := ⟨_, rfl⟩
          have hD0 : 0 ≤ D := by omega
          have hD1 : D ≤ 18446744073709551615 := by omega
          rw [hat, hD] at HS
          by_cases hg : 0 < D
          · have hg1 : decide (0 < D) = true := by simpa using hg
            have HS1 := Lib.hid (HS.out.1 hg)
            clear hat HS
            go_wp2_with fail
            go_quiet ((go_at_call 94; first | exact stays rfl (refat_any _ _ _ _ _ (HQ2.out.drewN _) HA.out.2) | exact stays rfl (refat_any _ _ _ _ _ HQ2.out HA.out.2)))
            rw [HAT.out]
            go_wp2_with (at_builtin; refine app_bkt rfl _ _ rfl w.heap.size A1 X.length c1 X rfl ?c0 (wr.heap.size) rfl (pi, D) ?c1 ?c2 ?c3 ?c4 ?_)
            case c0 => exact ((HO.out.drewN _).alloc _).1
            case c1 => exact (new_twoB (wr.drewN _) _ _ _).1
            case c2 => exact (new_twoB (wr.drewN _) _ _ _).2
            case c3 => omega
            case c4 => exact ((HO.out.drewN _).alloc _).2.size
            intro A2 c2 w2 hown hgrow
            have HO2 := Lib.hid (show OwnC w w2 A2 c2 (X ++ [(pi, D)]) from ⟨by rw [List.length_append]; exact hown, below_own ((HO.out.drewN _).alloc _).2 ((HO.out.drewN _).alloc _).2.size ((HO.out.drewN _).alloc _).1 hgrow⟩)
            clear hown hgrow
            go_wp2_with fail
            go_roundw
            case rel => exact ⟨k + 1, A2, c2, X ++ [(pi, D)], by omega, by go_num, by rw [List.length_append]; rfl, Lib.hid (by rw [HT.out, HS1.out, ← HX.out]), HO2⟩
            case measure => simp [intOf]; omega
          · have hg1 : decide (0 < D) = false := by simpa using hg
            have HS1 := Lib.hid (HS.out.2 hg)
            have hD2 : D = 0 := by omega
            clear hat HS
            go_wp2_with fail
            go_quiet ((go_at_call 94; first | exact stays rfl (refat_any _ _ _ _ _ (HQ2.out.drewN _) HA.out.2) | exact stays rfl (refat_any _ _ _ _ _ HQ2.out HA.out.2)))
            rw [HAT.out]
            go_wp2_with fail
            go_roundw
            case rel => exact ⟨k + 1, A1, c1, X, by omega, by go_num, rfl, Lib.hid (by rw [HT.out, HS1.out, ← HX.out]), Lib.hid (HO.out.drewN _)⟩
            case measure => simp [intOf]; omega
        · obtain rfl : k = P.length := by omega
          have hki : ¬ ((P.length : Int) < (P.length : Int)) := by omega
          have hX := HX.out
          rw [List.take_length] at hX
          have hXt : X = tidy (subL P Q) := by rw [hX]; exact tidy_filter_pos (subL_asc HA.out.1 Q) (subL_nnB HLA.out)
          have H1 := Lib.hid (HO.out.bk (by rw [hX]; exact fun p hp => subL_wb HP.out.2.1 HN.out.2.nn HLA.out p (List.mem_filter.1 hp).1) (by rw [hX]; have := offL_length P Q; omega))
          have H2 := Lib.hid (And.intro HO.out.2 HO.out.new)
          have HXT := Lib.hid hXt
          clear HO HX hX hXt
          go_wp2_with fail
          go_ret2
          exact .inr ⟨H3.out, A1, c1, by rw [← HXT.out] <;> rfl, by rw [← HXT.out]; exact H1.out, H2.out⟩
end Go.Proofs.Ytbibhjcmdehdbaa

/-! The document's Together and Tidy. -/
namespace Go.Proofs.Ytbibhjcmdehdbaa
open Go.RowKit Go.Sort
set_option linter.unusedVariables false

/-- append(counts, n) -/
theorem app_u64 {ops : Array Oper} {rest : List Oper} {o : Oper} {a : Act} {w : World} {Q : Exit → Act → World → Prop} (hgd : o.guard = none) (s x : Operand)
    (ho : o.op = .call { callee := .builtin .append, args := #[s, x], argTypes := #[95, 95] })
    (base : Nat) (A : Option Addr) (n c : Nat) (L : List Int) (hs : a.eval s = .slice A n c) (hown : w.ownsRow base 22 1 (.slice A n c) n (cellsU L))
    (g : Nat) (hx : a.eval x = .slice (some ⟨g, 0, none⟩) 1 1) (y : Int) (hy0 : w.cell? ⟨g, 0, none⟩ = some (.int .u64 y)) (hl : n + 1 ≤ 1000000) (hbase : base ≤ w.heap.size)
    (h : ∀ A' c' w', w'.ownsRow base 22 1 (.slice A' (n + 1) c') (n + 1) (cellsU (L ++ [y])) → w.grownBy w' (Value.slice A n c).ownBlock → wpList Try.prog ops Q rest (a.put o.dst (.slice A' (n + 1) c')) w') : wpList Try.prog ops Q (o :: rest) a w := by
  obtain ⟨i0, hi, hz0, hz1, hz2⟩ := info_parts infoU
  refine wpList_append_own w hgd s x 95 ho base 22 i0 (.int .u64 0) 1 8 Try.underlying95 hi hz0 hz1 hz2 rfl (by decide) _ n (cellsU L) hs hown ⟨g, 0, none⟩ 1 1 [.int .u64 y] hx rfl ?_ (by simp [Value.oneCell']) (by unfold maxLen; omega) (by omega) hbase ?_
  · intro j u hu
    have hj : j < 1 := (List.getElem?_eq_some_iff.1 hu).1
    rw [addr_at]
    obtain rfl : j = 0 := by omega
    simp at hu; subst hu; exact hy0
  · intro v' w' h1 h2 _
    rw [← cellsU_snoc] at h1
    obtain ⟨A', c', rfl⟩ : ∃ A' c', v' = .slice A' (n + 1) c' := by
      obtain ⟨g', cap', hv, _, _⟩ := h1.form (by omega)
      exact ⟨_, _, hv⟩
    exact h A' c' w' h1 h2
theorem new_oneU (w : World) (u : Value) (t : TypeId) : (w.alloc (.cells #[u] t)).cell? ⟨w.heap.size, 0, none⟩ = some u := by
  rw [cell_of_row _ _ _ _ _ _ (heap_alloc_new w (.cells #[u] t))]; rfl
def OwnU (w0 w : World) (A : Option Addr) (c : Nat) (L : List Int) : Prop := w.ownsRow w0.heap.size 22 1 (.slice A L.length c) L.length (cellsU L) ∧ Below w0.heap.size w0 w
/-- the counts of an index -/
def ctL (i : Int) (l : List (Int × Int)) : List Int := (l.filter fun p => p.1 == i).map (·.2)
theorem ctL_snoc (i : Int) (l : List (Int × Int)) (p : Int × Int) : (p.1 = i → ctL i (l ++ [p]) = ctL i l ++ [p.2]) ∧ (p.1 ≠ i → ctL i (l ++ [p]) = ctL i l) := by
  unfold ctL
  constructor <;> intro h <;> rw [List.filter_append, List.map_append] <;> simp [h]
theorem ctL_sum (i : Int) (l : List (Int × Int)) : (ctL i l).sum = atI l i := by
  induction l with
  | nil => rfl
  | cons p r ih =>
    unfold ctL at *
    by_cases h : p.1 = i
    · rw [List.filter_cons, if_pos (by simpa using h), List.map_cons, List.sum_cons, ih, atI, if_pos h]
    · rw [List.filter_cons, if_neg (by simpa using h), ih, atI, if_neg h]; omega
theorem ctL_length (i : Int) (l : List (Int × Int)) : (ctL i l).length ≤ l.length := by
  unfold ctL
  rw [List.length_map]
  exact List.length_filter_le _ _
theorem ctL_bd {i : Int} {l : List (Int × Int)} (h : ∀ p ∈ l, Wb p) : ∀ x ∈ ctL i l, 0 ≤ x ∧ x ≤ 18446744073709551615 := fun x hx => by
  obtain ⟨p, hp, rfl⟩ := List.mem_map.1 hx
  exact (h p (List.mem_filter.1 hp).1).2.2
set_option maxHeartbeats 3000000 in
set_option maxRecDepth 100000 in
theorem together_any (i : Int) (A : Option Addr) (c : Nat) (l : List (Int × Int)) (w : World) (hl : Bk w A l) (hn : l.length ≤ 5000) (hc : cnt l ≤ 18446744073709551615) :
    Calls Try.prog 90 #[.slice A l.length c, .int .i64 i] w fun e w' => e = .returned (.tuple #[.int .u64 (atI l i), .int .i64 0]) ∧ Below w.heap.size w w' := by
  have HL := Lib.hid hl
  have HC := Lib.hid hc
  have hlen : (l.length : Int) ≤ 5000 := by omega
  clear hl hc
  go_enter Try.func90, Try.ntmps90
  go_wp2_with fail
  go_loopw [6, 7] (fun v j wr => ∃ (k : Nat) (A1 : Option Addr) (c1 : Nat) (L : List Int), k ≤ l.length ∧ j = .int .i64 k ∧ v = .slice A1 L.length c1 ∧ Hid (L = ctL i (l.take k)) ∧ Hid (OwnU w wr A1 c1 L)) (fun _ j _ => l.length - (intOf j).toNat)
  case atStart => exact ⟨0, none, 0, [], by omega, rfl, rfl, Lib.hid rfl, Lib.hid ⟨World.ownsRow_nil _ _ _ _, Below.refl _ _⟩⟩
  case round =>
    obtain ⟨k, A1, c1, L, hk, rfl, rfl, HX, HO⟩ := hrel
    by_cases hlt : k < l.length
    · have hki : (k : Int) < (l.length : Int) := by omega
      obtain ⟨b, off, rfl, hc⟩ := (HL.out.below HO.out.2).some_ (by omega)
      obtain ⟨p, hp⟩ := getElem?_lt hlt
      obtain ⟨q1, q2⟩ := hc k p hp
      have HS := Lib.hid (ctL_snoc i (l.take k) p)
      have HT := Lib.hid (take_snoc l k p hp)
      have hx : L.length ≤ 5000 := by
        rw [HX.out]
        have := ctL_length i (l.take k)
        rw [List.length_take] at this
        omega
      obtain ⟨pi, pc⟩ := p
      simp only at q1 q2 HS
      have hlb := block_lt_of_cell q1
      simp only at hlb
      clear hc hp
      by_cases hg : pi = i
      · have hg1 : (pi == i) = true := by simpa using hg
        have HS1 := Lib.hid (HS.out.1 hg)
        clear hg HS
        go_wp2_with (at_builtin; refine app_u64 rfl _ _ rfl w.heap.size A1 L.length c1 L rfl ?c0 (wr.heap.size) rfl pc ?c1 ?c2 ?c3 ?_)
        case c0 => exact HO.out.1.alloc _
        case c1 => exact new_oneU _ _ _
        case c2 => omega
        case c3 => exact (HO.out.2.alloc HO.out.2.size _).size
        intro A2 c2 w2 hown hgrow
        have HO2 := Lib.hid (show OwnU w w2 A2 c2 (L ++ [pc]) from ⟨by rw [List.length_append]; exact hown, (HO.out.2.alloc HO.out.2.size _).grown hgrow ((HO.out.2.alloc HO.out.2.size _).size) (fun k hk => (HO.out.1.lt k hk).1)⟩)
        clear hown hgrow
        go_wp2_with fail
        go_roundw
        case rel => exact ⟨k + 1, A2, c2, L ++ [pc], by omega, by go_num, by rw [List.length_append]; rfl, Lib.hid (by rw [HT.out, HS1.out, ← HX.out]), HO2⟩
        case measure => simp [intOf]; omega
      · have hg1 : (pi == i) = false := by simpa using hg
        have HS1 := Lib.hid (HS.out.2 hg)
        clear hg HS
        go_wp2_with fail
        go_roundw
        case rel => exact ⟨k + 1, A1, c1, L, by omega, by go_num, rfl, Lib.hid (by rw [HT.out, HS1.out, ← HX.out]), HO⟩
        case measure => simp [intOf]; omega
    · obtain rfl : k = l.length := by omega
      have hki : ¬ ((l.length : Int) < (l.length : Int)) := by omega
      have hX := HX.out
      rw [List.take_length] at hX
      have HE := Lib.hid (show L.sum = atI l i by rw [hX, ctL_sum])
      have hbd := ctL_bd (i := i) HL.out.2.1
      rw [← hX] at hbd
      have hll : L.length ≤ 5000 := by rw [hX]; have := ctL_length i l; omega
      have hle : atI l i ≤ 18446744073709551615 := by have := ((show Nn l from fun p hp => (HL.out.2.1 p hp).2.2.1).at i).2; have := HC.out; omega
      have HH := Lib.hid (And.intro hbd hle)
      clear hX HX hbd hle
      by_cases h0 : L.length = 0
      · obtain rfl : L = [] := List.eq_nil_of_length_eq_zero h0
        have hz : Hid (atI l i = 0) := Lib.hid (by rw [← HE.out]; rfl)
        go_wp2_with fail
        refine (refadd_none A1 c1 (fun _ => 0) wr).mono ?_
        rintro e w' ⟨rfl, rfl⟩
        have hv : addV (fun _ => 0) 0 = 0 ∧ addE (fun _ => 0) 0 = 0 := ⟨rfl, rfl⟩
        rw [hv.1, hv.2]
        clear hv
        go_wp2_with fail
        go_ret2
        exact ⟨by rw [hz.out] <;> rfl, HO.out.2⟩
      · obtain ⟨_, b1, rfl, hrow⟩ := own_rowU HO.out.1 (by omega) (by omega) HH.out.1
        have hsum : sumTo (fun j => L.getD j 0) L.length = atI l i := by rw [sumTo_list L L.length (Nat.le_refl _), List.take_length, HE.out]
        obtain ⟨f1, f2⟩ := add_fits (f := fun j => L.getD j 0) (n := L.length) (by rw [hsum]; exact HH.out.2)
        rw [hsum] at f1
        have HR := Lib.hid (And.intro hrow (And.intro f1 f2))
        clear hrow hsum f1 f2
        go_wp2_with fail
        refine (refaddL b1 L.length c1 _ _ _ wr HR.out.1 HR.out.2.1 HR.out.2.2).mono ?_
        rintro e w' ⟨rfl, rfl⟩
        go_wp2_with fail
        go_ret2
        exact ⟨rfl, HO.out.2⟩
end Go.Proofs.Ytbibhjcmdehdbaa

/-! The document's Tidy. -/
namespace Go.Proofs.Ytbibhjcmdehdbaa
open Go.RowKit Go.Sort
set_option linter.unusedVariables false

/-- behind the last index that was seen, if there was one -/
def aft (h : Bool) (last i : Int) : Bool := !h || decide (last < i)
def bOf : Value → Bool
  | .bool b => b
  | _ => false
def outP (h : Bool) (last : Int) (l : List (Int × Int)) : List (Int × Int) := (tidy l).filter fun p => !aft h last p.1
def remN (h : Bool) (last : Int) (l : List (Int × Int)) : Nat := (l.filter fun p => aft h last p.1).length
/-- the least index behind the last one -/
def Low (h : Bool) (last x : Int) (l : List (Int × Int)) : Prop := (∃ p ∈ l, p.1 = x) ∧ aft h last x = true ∧ ∀ p ∈ l, aft h last p.1 = true → x ≤ p.1
theorem filter_lt {l : List (Int × Int)} {f g : Int × Int → Bool} (h : ∀ p ∈ l, f p = true → g p = true) (he : ∃ p ∈ l, g p = true ∧ f p = false) : (l.filter f).length < (l.filter g).length := by
  have le : ∀ {l : List (Int × Int)}, (∀ p ∈ l, f p = true → g p = true) → (l.filter f).length ≤ (l.filter g).length := by
    intro l
    induction l with
    | nil => intro _; simp
    | cons a r ih =>
      intro h
      have h1 := ih fun p hp => h p (by simp [hp])
      have h2 := h a (by simp)
      by_cases hf : f a = true
      · rw [List.filter_cons, if_pos hf, List.filter_cons, if_pos (h2 hf)]; simpa using h1
      · rw [List.filter_cons, if_neg hf, List.filter_cons]; split <;> simp <;> omega
  induction l with
  | nil => obtain ⟨p, hp, _⟩ := he; simp at hp
  | cons a r ih =>
    obtain ⟨p, hp, h1, h2⟩ := he
    have hr : ∀ p ∈ r, f p = true → g p = true := fun p hp => h p (by simp [hp])
    rcases List.mem_cons.1 hp with rfl | hp
    · rw [List.filter_cons, if_neg (by rw [h2]; simp), List.filter_cons, if_pos h1]
      have := le hr
      simp; omega
    · have h3 := ih hr ⟨p, hp, h1, h2⟩
      by_cases hf : f a = true
      · rw [List.filter_cons, if_pos hf, List.filter_cons, if_pos (h a (by simp) hf)]; simpa using h3
      · rw [List.filter_cons, if_neg hf, List.filter_cons]; split <;> simp <;> omega
theorem aft_x {h : Bool} {last x i : Int} (hx : aft h last x = true) (hi : aft true x i = true) : aft h last i = true := by
  unfold aft at *
  cases h
  · simp
  · simp at *; omega
theorem rem_lt {h : Bool} {last x : Int} {l : List (Int × Int)} (hl : Low h last x l) : remN true x l < remN h last l := by
  obtain ⟨⟨p, hp, e⟩, hx, _⟩ := hl
  exact filter_lt (fun q _ hq => aft_x hx hq) ⟨p, hp, by rw [e]; exact hx, by rw [e]; unfold aft; simp⟩
theorem out_end {h : Bool} {last : Int} {l : List (Int × Int)} (hl : ∀ p ∈ l, aft h last p.1 = false) : outP h last l = tidy l := by
  unfold outP
  rw [List.filter_eq_self]
  intro p hp
  obtain ⟨q, hq, e⟩ := mem_tidy hp
  rw [← e, hl q hq]; rfl
theorem mem_outP {h : Bool} {last : Int} {l : List (Int × Int)} {p : Int × Int} : p ∈ outP h last l ↔ (p ∈ tidy l ∧ aft h last p.1 = false) := by
  unfold outP
  rw [List.mem_filter]
  simp
theorem out_mem {h : Bool} {last x : Int} {l : List (Int × Int)} (n : Nn l) (hl : Low h last x l) (p : Int × Int) : p ∈ outP true x l ↔ (p ∈ outP h last l ∨ (p = (x, atI l x) ∧ 0 < atI l x)) := by
  obtain ⟨_, hx, hm⟩ := hl
  rw [mem_outP, mem_outP]
  constructor
  · rintro ⟨h1, h2⟩
    by_cases ha : aft h last p.1 = true
    · refine .inr ?_
      obtain ⟨q, hq, e⟩ := mem_tidy h1
      have h3 := hm q hq (by rw [e]; exact ha)
      have h4 : p.1 ≤ x := by unfold aft at h2; simp at h2; exact h2
      have h5 : p.1 = x := by omega
      have h6 := atI_asc (tidy_asc l) (i := p.1) (n := p.2) h1
      rw [atI_tidy, h5] at h6
      have h7 := tidy_pos n p h1
      exact ⟨by rw [h6, ← h5], by rw [h6]; exact h7⟩
    · exact .inl ⟨h1, by simpa using ha⟩
  · rintro (⟨h1, h2⟩ | ⟨rfl, h0⟩)
    · refine ⟨h1, ?_⟩
      rcases ha : aft true x p.1 with _ | _
      · rfl
      · rw [aft_x hx ha] at h2; exact h2
    · refine ⟨(pos_mem (tidy_asc l) (tidy_pos n) x (atI l x)).2 ⟨by rw [atI_tidy], by omega⟩, ?_⟩
      unfold aft
      simp
theorem out_asc (h : Bool) (last : Int) (l : List (Int × Int)) : Asc (outP h last l) := asc_filter (tidy_asc l) _
theorem out_step {h : Bool} {last x : Int} {l : List (Int × Int)} (n : Nn l) (hl : Low h last x l) :
    (0 < atI l x → outP true x l = outP h last l ++ [(x, atI l x)]) ∧ (¬ 0 < atI l x → outP true x l = outP h last l) := by
  have hm := out_mem n hl
  have hx := hl.2.1
  constructor
  · intro h0
    refine asc_unique (out_asc _ _ _) (List.pairwise_append.2 ⟨out_asc _ _ _, List.pairwise_singleton _ _, fun p hp q hq => ?_⟩) fun p => ?_
    · rw [List.mem_singleton.1 hq]
      have h2 := (mem_outP.1 hp).2
      show p.1 < x
      unfold aft at h2 hx
      cases h
      · simp at h2
      · simp at *; omega
    · rw [hm p, List.mem_append, List.mem_singleton]
      constructor
      · rintro (h1 | ⟨h1, _⟩)
        · exact .inl h1
        · exact .inr h1
      · rintro (h1 | h1)
        · exact .inl h1
        · exact .inr ⟨h1, h0⟩
  · intro h0
    refine asc_unique (out_asc _ _ _) (out_asc _ _ _) fun p => ?_
    rw [hm p]
    constructor
    · rintro (h1 | ⟨_, h1⟩)
      · exact h1
      · exact absurd h1 h0
    · exact .inl
/-- what the inner loop has seen of the first k -/
def Seen (h : Bool) (last : Int) (f : Bool) (x : Int) (l : List (Int × Int)) : Prop := if f = true then Low h last x l else ∀ p ∈ l, aft h last p.1 = false
theorem seen_no {h f : Bool} {last x : Int} {l : List (Int × Int)} {p : Int × Int} (hs : Seen h last f x l) (hp : aft h last p.1 = false ∨ (f = true ∧ x ≤ p.1)) : Seen h last f x (l ++ [p]) := by
  unfold Seen at *
  cases f
  · simp only [Bool.false_eq_true, if_false] at *
    rcases hp with hp | ⟨hp, _⟩
    · intro q hq
      rcases List.mem_append.1 hq with hq | hq
      · exact hs q hq
      · rw [List.mem_singleton.1 hq]; exact hp
    · simp at hp
  · simp only [if_true] at *
    obtain ⟨⟨q, hq, e⟩, h1, h2⟩ := hs
    refine ⟨⟨q, by simp [hq], e⟩, h1, fun r hr ha => ?_⟩
    rcases List.mem_append.1 hr with hr | hr
    · exact h2 r hr ha
    · rw [List.mem_singleton.1 hr] at ha ⊢
      rcases hp with hp | ⟨_, hp⟩
      · rw [hp] at ha; simp at ha
      · exact hp
theorem seen_yes {h f : Bool} {last x : Int} {l : List (Int × Int)} {p : Int × Int} (hs : Seen h last f x l) (hp : aft h last p.1 = true) (hx : f = false ∨ p.1 < x) : Seen h last true p.1 (l ++ [p]) := by
  unfold Seen at *
  simp only [if_true]
  refine ⟨⟨p, by simp, rfl⟩, hp, fun r hr ha => ?_⟩
  rcases List.mem_append.1 hr with hr | hr
  · cases f
    · simp only [Bool.false_eq_true, if_false] at hs
      rw [hs r hr] at ha; simp at ha
    · simp only [if_true] at hs
      have := hs.2.2 r hr ha
      rcases hx with hx | hx
      · simp at hx
      · omega
  · rw [List.mem_singleton.1 hr]; exact Int.le_refl _
def TidP (w : World) (l : List (Int × Int)) (e : Ending) (w' : World) : Prop := ∃ A c, e = .returned (.tuple #[.slice A (tidy l).length c, .int .i64 0]) ∧ Bk w' A (tidy l) ∧ Below w.heap.size w w' ∧ NewA w A
theorem tidy_wb {l : List (Int × Int)} (h : ∀ p ∈ l, Wb p) (hc : cnt l ≤ 18446744073709551615) : ∀ p ∈ tidy l, Wb p := fun p hp => by
  have n : Nn l := fun q hq => (h q hq).2.2.1
  obtain ⟨q, hq, e⟩ := mem_tidy hp
  obtain ⟨h1, h2, _, _⟩ := h q hq
  have h3 := atI_asc (tidy_asc l) (i := p.1) (n := p.2) hp
  rw [atI_tidy] at h3
  have h4 := n.at p.1
  exact ⟨by rw [← e]; exact h1, by rw [← e]; exact h2, by omega, by omega⟩
set_option maxHeartbeats 4000000 in
set_option maxRecDepth 100000 in
theorem reftidy_any (A : Option Addr) (c : Nat) (l : List (Int × Int)) (w : World) (hl : Bk w A l) (hn : l.length ≤ 5000) (hc : cnt l ≤ 18446744073709551615) :
    Calls Try.prog 49 #[.slice A l.length c] w (TidP w l) := by
  have HL := Lib.hid hl
  have HC := Lib.hid hc
  have HN := Lib.hid (show Nn l from fun p hp => (hl.2.1 p hp).2.2.1)
  have hlen : (l.length : Int) ≤ 5000 := by omega
  clear hl hc
  go_enter Try.func49, Try.ntmps49
  go_wp2_with fail
  go_loopw [4, 5, 6] (fun v hv lv wr => ∃ (h : Bool) (last : Int) (A1 : Option Addr) (c1 : Nat) (X : List (Int × Int)), hv = .bool h ∧ lv = .int .i64 last ∧ v = .slice A1 X.length c1 ∧ Hid (X = outP h last l) ∧ Hid (OwnC w wr A1 c1 X)) (fun _ hv lv _ => remN (bOf hv) (intOf lv) l)
  case atStart => exact ⟨false, 0, none, 0, [], rfl, rfl, rfl, Lib.hid (by unfold outP aft; simp), Lib.hid ⟨World.ownsRow_nil _ _ _ _, Below.refl _ _⟩⟩
  case round =>
    obtain ⟨h, last, A1, c1, X, rfl, rfl, rfl, HX, HO⟩ := hrel
    obtain ⟨wA, hwA⟩ : ∃ W, W = wr := ⟨_, rfl⟩
    subst hwA
    go_wp2_with fail
    go_loopw [7, 8, 9] (fun fv xv i wx => ∃ (k : Nat) (f : Bool) (x : Int), k ≤ l.length ∧ i = .int .i64 k ∧ fv = .bool f ∧ xv = .int .i64 x ∧ Hid (Seen h last f x (l.take k)) ∧ wA = wx) (fun _ _ i _ => l.length - (intOf i).toNat)
    case atStart => exact ⟨0, false, 0, by omega, rfl, rfl, rfl, Lib.hid (by unfold Seen; simp), rfl⟩
    case round =>
      obtain ⟨k, f, x, hk, rfl, rfl, rfl, HS, rfl⟩ := hrel
      by_cases hlt : k < l.length
      · have hki : (k : Int) < (l.length : Int) := by omega
        obtain ⟨b, off, rfl, hcell⟩ := (HL.out.below HO.out.2).some_ (by omega)
        obtain ⟨p, hp⟩ := getElem?_lt hlt
        obtain ⟨q1, q2⟩ := hcell k p hp
        have HT := Lib.hid (take_snoc l k p hp)
        obtain ⟨pi, pc⟩ := p
        simp only at q1 q2
        clear hcell hp
        cases h with
        | false =>
          have HA := Lib.hid (show aft false last pi = true by unfold aft; simp)
          cases f with
          | false =>
            have HS2 := Lib.hid (show Seen false last true pi (l.take (k + 1)) from by rw [HT.out]; exact seen_yes (p := (pi, pc)) HS.out HA.out (.inl rfl))
            go_wp2_with fail
            go_roundw
            case rel => exact ⟨k + 1, true, pi, by omega, by go_num, rfl, rfl, HS2, by first | rfl | trivial⟩
            case measure => simp [intOf]; omega
          | true =>
            by_cases hlow : pi < x
            · have d2 : decide (pi < x) = true := by simpa using hlow
              have HS2 := Lib.hid (show Seen false last true pi (l.take (k + 1)) from by rw [HT.out]; exact seen_yes (p := (pi, pc)) HS.out HA.out (.inr hlow))
              clear hlow
              go_wp2_with fail
              go_roundw
              case rel => exact ⟨k + 1, true, pi, by omega, by go_num, rfl, rfl, HS2, by first | rfl | trivial⟩
              case measure => simp [intOf]; omega
            · have d2 : decide (pi < x) = false := by simpa using hlow
              have HS2 := Lib.hid (show Seen false last true x (l.take (k + 1)) from by rw [HT.out]; exact seen_no HS.out (.inr ⟨rfl, by simp only; omega⟩))
              clear hlow
              go_wp2_with fail
              go_roundw
              case rel => exact ⟨k + 1, true, x, by omega, by go_num, rfl, rfl, HS2, by first | rfl | trivial⟩
              case measure => simp [intOf]; omega
        | true =>
          by_cases hla : last < pi
          · have d1 : decide (last < pi) = true := by simpa using hla
            have HA := Lib.hid (show aft true last pi = true by unfold aft; simp; exact hla)
            clear hla
            cases f with
            | false =>
              have HS2 := Lib.hid (show Seen true last true pi (l.take (k + 1)) from by rw [HT.out]; exact seen_yes (p := (pi, pc)) HS.out HA.out (.inl rfl))
              go_wp2_with fail
              go_roundw
              case rel => exact ⟨k + 1, true, pi, by omega, by go_num, rfl, rfl, HS2, by first | rfl | trivial⟩
              case measure => simp [intOf]; omega
            | true =>
              by_cases hlow : pi < x
              · have d2 : decide (pi < x) = true := by simpa using hlow
                have HS2 := Lib.hid (show Seen true last true pi (l.take (k + 1)) from by rw [HT.out]; exact seen_yes (p := (pi, pc)) HS.out HA.out (.inr hlow))
                clear hlow
                go_wp2_with fail
                go_roundw
                case rel => exact ⟨k + 1, true, pi, by omega, by go_num, rfl, rfl, HS2, by first | rfl | trivial⟩
                case measure => simp [intOf]; omega
              · have d2 : decide (pi < x) = false := by simpa using hlow
                have HS2 := Lib.hid (show Seen true last true x (l.take (k + 1)) from by rw [HT.out]; exact seen_no HS.out (.inr ⟨rfl, by simp only; omega⟩))
                clear hlow
                go_wp2_with fail
                go_roundw
                case rel => exact ⟨k + 1, true, x, by omega, by go_num, rfl, rfl, HS2, by first | rfl | trivial⟩
                case measure => simp [intOf]; omega
          · have d1 : decide (last < pi) = false := by simpa using hla
            have HS2 := Lib.hid (show Seen true last f x (l.take (k + 1)) from by rw [HT.out]; exact seen_no HS.out (.inl (by unfold aft; simp; omega)))
            clear hla
            go_wp2_with fail
            go_roundw
            case rel => exact ⟨k + 1, f, x, by omega, by go_num, rfl, rfl, HS2, by first | rfl | trivial⟩
            case measure => simp [intOf]; omega
      · obtain rfl : k = l.length := by omega
        have hki : ¬ ((l.length : Int) < (l.length : Int)) := by omega
        have hS := HS.out
        rw [List.take_length] at hS
        cases f with
        | false =>
          have hXt : X = tidy l := by rw [HX.out]; exact out_end (by simpa [Seen] using hS)
          have HXT := Lib.hid hXt
          have H1 := Lib.hid (HO.out.bk (by rw [hXt]; exact tidy_wb HL.out.2.1 HC.out) (by rw [hXt]; have := tidy_length l; omega))
          have H2 := Lib.hid (And.intro HO.out.2 HO.out.new)
          clear HO HX hXt hS HS
          go_wp2_with fail
          go_ret2
          exact ⟨A1, c1, by rw [← HXT.out] <;> rfl, by rw [← HXT.out]; exact H1.out, H2.out⟩
        | true =>
          have HLow := Lib.hid (show Low h last x l by simpa [Seen] using hS)
          clear hS HS
          have hn0 := (HN.out.at x).1
          have hn1 : atI l x ≤ 18446744073709551615 := by have := (HN.out.at x).2; have := HC.out; omega
          have HST := Lib.hid (out_step HN.out HLow.out)
          have HRL := Lib.hid (rem_lt HLow.out)
          have hx : X.length ≤ 5000 := by
            rw [HX.out]
            have h1 := List.length_filter_le (fun p => !aft h last p.1) (tidy l)
            have h2 := tidy_length l
            unfold outP
            omega
          go_wp2_with fail
          refine (together_any x A c l wA (HL.out.below HO.out.2) hn HC.out).mono ?_
          rintro e w2 ⟨rfl, hb2⟩
          have HO2 := Lib.hid (HO.out.below hb2)
          clear hb2
          obtain ⟨n, hnn⟩ : ∃ n, atI l x = n := ⟨_, rfl⟩
          rw [hnn] at hn0 hn1 HST ⊢
          by_cases h0 : 0 < n
          · have d1 : decide (0 < n) = true := by simpa using h0
            have HE := Lib.hid (HST.out.1 (by omega))
            clear h0 hnn HST
            go_wp2_with (at_builtin; refine app_bkt rfl _ _ rfl w.heap.size A1 X.length c1 X rfl ?c0 (w2.heap.size) rfl (x, n) ?c1 ?c2 ?c3 ?c4 ?_)
            case c0 => exact (HO2.out.alloc _).1
            case c3 => omega
            case c4 => exact (HO2.out.alloc _).2.size
            intro A2 c2 w3 hown hgrow
            have HO3 := Lib.hid (show OwnC w w3 A2 c2 (X ++ [(x, n)]) from ⟨by rw [List.length_append]; exact hown, below_own (HO2.out.alloc _).2 (HO2.out.alloc _).2.size (HO2.out.alloc _).1 hgrow⟩)
            clear hown hgrow
            go_wp2_with fail
            go_roundw
            case rel => exact ⟨true, x, A2, c2, X ++ [(x, n)], rfl, rfl, by rw [List.length_append]; rfl, Lib.hid (by rw [HE.out, ← HX.out]), HO3⟩
            case measure => exact HRL.out
          · have d1 : decide (0 < n) = false := by simpa using h0
            have HE := Lib.hid (HST.out.2 (by omega))
            clear h0 hnn HST
            go_wp2_with fail
            go_roundw
            case rel => exact ⟨true, x, A1, c1, X, rfl, rfl, rfl, Lib.hid (by rw [HE.out, ← HX.out]), HO2⟩
            case measure => exact HRL.out
end Go.Proofs.Ytbibhjcmdehdbaa

/-! The document's coarse: a side by a coarser schema. -/
namespace Go.Proofs.Ytbibhjcmdehdbaa
open Go.RowKit Go.Sort
set_option linter.unusedVariables false

theorem mv_snoc (f t : Int) (l : List (Int × Int)) (p : Int × Int) : mv f t (l ++ [p]) = mv f t l ++ [(toV f t p.1, p.2)] := by unfold mv; rw [List.map_append]; rfl
def CoaP (w : World) (Z : List (Int × Int)) (e : Ending) (w' : World) : Prop := ∃ A c, e = .returned (.slice A Z.length c) ∧ Bk w' A Z ∧ Below w.heap.size w w' ∧ NewA w A
set_option maxHeartbeats 3000000 in
set_option maxRecDepth 100000 in
theorem refcoarse_any (f t : Int) (A : Option Addr) (c : Nat) (l : List (Int × Int)) (w : World) (hl : Bk w A l) (hn : l.length ≤ 1000) (hc : cnt l ≤ 18446744073709551615) (hf : rightB f = true) (ht : rightB t = true) (hle : t ≤ f) (hi : ∀ p ∈ l, inB f p.1 = true) :
    Calls Try.prog 114 #[.slice A l.length c, .int .i64 f, .int .i64 t] w (CoaP w (tidy (mv f t l))) := by
  have HL := Lib.hid hl
  have HC := Lib.hid hc
  have HI := Lib.hid hi
  have HR := Lib.hid (And.intro hf (And.intro ht hle))
  have HOK := Lib.hid (show okTo f t = true by unfold okTo; rw [hf, ht]; simpa using hle)
  have hlen : (l.length : Int) ≤ 1000 := by omega
  clear hl hc hi hf ht hle
  go_enter Try.func114, Try.ntmps114
  go_wp2_with fail
  go_loopw [7, 8] (fun v i wr => ∃ (k : Nat) (A1 : Option Addr) (c1 : Nat) (X : List (Int × Int)), k ≤ l.length ∧ i = .int .i64 k ∧ v = .slice A1 X.length c1 ∧ Hid (X = mv f t (l.take k)) ∧ Hid (OwnC w wr A1 c1 X)) (fun _ i _ => l.length - (intOf i).toNat)
  case atStart => exact ⟨0, none, 0, [], by omega, rfl, rfl, Lib.hid rfl, Lib.hid ⟨World.ownsRow_nil _ _ _ _, Below.refl _ _⟩⟩
  case round =>
    obtain ⟨k, A1, c1, X, hk, rfl, rfl, HX, HO⟩ := hrel
    by_cases hlt : k < l.length
    · have hki : (k : Int) < (l.length : Int) := by omega
      obtain ⟨b, off, rfl, hcell⟩ := (HL.out.below HO.out.2).some_ (by omega)
      obtain ⟨p, hp⟩ := getElem?_lt hlt
      obtain ⟨q1, q2⟩ := hcell k p hp
      have HT := Lib.hid (take_snoc l k p hp)
      have HIP := Lib.hid (HI.out p (mem_of_at hp))
      have HS := Lib.hid (mv_snoc f t (l.take k) p)
      have hx : X.length ≤ 1000 := by rw [HX.out, mv_length, List.length_take]; omega
      obtain ⟨pi, pc⟩ := p
      simp only at q1 q2 HS HIP
      have hlb := block_lt_of_cell q1
      simp only at hlb
      have HV := Lib.hid (show toI f t pi = toV f t pi by unfold toI; rw [if_pos ⟨HOK.out, HIP.out⟩])
      clear hcell hp
      go_wp2_with fail
      refine (refto_any f t pi wr).mono ?_
      rintro e w' ⟨rfl, rfl⟩
      rw [HV.out]
      obtain ⟨V, hV⟩ : ∃ V, toV f t pi = V := ⟨_, rfl⟩
      rw [hV] at HS ⊢
      clear hV HV
      go_wp2_with (at_builtin; refine app_bkt rfl _ _ rfl w.heap.size A1 X.length c1 X rfl ?c0 (wr.heap.size) rfl (V, pc) ?c1 ?c2 ?c3 ?c4 ?_)
      case c0 => exact (HO.out.alloc _).1
      case c3 => omega
      case c4 => exact (HO.out.alloc _).2.size
      intro A2 c2 w3 hown hgrow
      have HO3 := Lib.hid (show OwnC w w3 A2 c2 (X ++ [(V, pc)]) from ⟨by rw [List.length_append]; exact hown, below_own (HO.out.alloc _).2 (HO.out.alloc _).2.size (HO.out.alloc _).1 hgrow⟩)
      clear hown hgrow
      go_wp2_with fail
      go_roundw
      case rel => exact ⟨k + 1, A2, c2, X ++ [(V, pc)], by omega, by go_num, by rw [List.length_append]; rfl, Lib.hid (by rw [HT.out, HS.out, ← HX.out]), HO3⟩
      case measure => simp [intOf]; omega
    · obtain rfl : k = l.length := by omega
      have hki : ¬ ((l.length : Int) < (l.length : Int)) := by omega
      have hX := HX.out
      rw [List.take_length] at hX
      have hXl : X.length ≤ 1000 := by rw [hX, mv_length]; omega
      have hw := mv_wb (t := t) HL.out.2.1 HI.out
      rw [← hX] at hw
      have HBX := Lib.hid (HO.out.bk hw (by omega))
      have HCX := Lib.hid (show cnt X ≤ 18446744073709551615 by rw [hX, cnt_mv]; exact HC.out)
      have HBB := Lib.hid HO.out.2
      have HXX := Lib.hid hX
      clear hX hw HX HO
      go_wp2_with fail
      refine (reftidy_any A1 c1 X wr HBX.out (by omega) HCX.out).mono ?_
      rintro e w2 ⟨A2, c2, rfl, hA, hb, hn2⟩
      have H2 := Lib.hid (And.intro hA (And.intro (HBB.out.trans (hb.mono HBB.out.size)) (fun a ha => Nat.le_trans HBB.out.size (hn2 a ha))))
      clear hA hb hn2
      rw [HXX.out] at H2 ⊢
      obtain ⟨Z, hZ⟩ : ∃ Z, tidy (mv f t l) = Z := ⟨_, rfl⟩
      rw [hZ] at H2 ⊢
      go_wp2_with fail
      go_ret
      rw [hZ]
      exact ⟨A2, c2, rfl, H2.out⟩
end Go.Proofs.Ytbibhjcmdehdbaa
