/- Contracts of To, of whole numbers' sums and differences, and of the document's own: what each returns, and that it leaves memory as it is. -/
import Derived.Test.YtbibhjcmdehdbaaHsB
import Derived.WalkLawsBesides
import Derived.WalkSpells
namespace Go.Proofs.Ytbibhjcmdehdbaa
open Go.RowKit Go.Sort
set_option linter.unusedVariables false

theorem up_any (n k : Int) (w : World) (h0 : 0 ≤ k) (h1 : k ≤ 60) (h2 : -4611686018427387904 ≤ n) (h3 : n ≤ 4611686018427387904) :
    Calls Try.prog 108 #[.int .i64 n, .int .u64 k] w fun e w' => e = .returned (.int .i64 (upv n k.toNat)) ∧ w = w' := by
  have hb := back_bounds n k.toNat
  have hp := pow_le_60 (k := k.toNat) (by omega)
  have hd := div_bounds n k.toNat 4611686018427387904 (by omega) (by omega)
  by_cases h : n / 2 ^ k.toNat * 2 ^ k.toNat = n
  · have e1 := upv_exact h
    have hE := Lib.hid e1
    have ht : (n / 2 ^ k.toNat * 2 ^ k.toNat != n) = false := by simpa using h
    clear h e1
    go_enter Try.func108, Try.ntmps108
    go_wp2_with (go_at_call 119; refine (down_any _ _ _ (by omega) (by omega)).mono ?_; rintro e w' ⟨rfl, rfl⟩)
    go_ret
    exact ⟨ret_int hE.out, rfl⟩
  · have e1 := upv_more h
    have hE := Lib.hid e1
    have ht : (n / 2 ^ k.toNat * 2 ^ k.toNat != n) = true := by simpa using h
    clear h e1
    go_enter Try.func108, Try.ntmps108
    go_wp2_with (go_at_call 119; refine (down_any _ _ _ (by omega) (by omega)).mono ?_; rintro e w' ⟨rfl, rfl⟩)
    go_ret
    exact ⟨ret_int hE.out, rfl⟩
theorem ok_parts {f t : Int} (h : okTo f t = true) : rightB f = true ∧ rightB t = true ∧ t ≤ f := by
  unfold okTo at h
  simpa using h
theorem to_yes (f t i : Int) (w : World) (h : okTo f t = true) (hi : inB f i = true) :
    Calls Try.prog 76 #[.int .i64 f, .int .i64 t, .int .i64 i] w fun e w' => e = .returned (.tuple #[.int .i64 (toV f t i), .int .i64 0]) ∧ w = w' := by
  obtain ⟨hF, hT, h1⟩ := ok_parts h
  obtain ⟨bf1, bf2⟩ := right_yes hF
  obtain ⟨bt1, bt2⟩ := right_yes hT
  obtain ⟨bi1, bi2⟩ := in_bd hi
  have h2 : decide (f < t) = false := by simp; omega
  have hE := Lib.hid (show upv i (f - t).toNat = toV f t i from rfl)
  clear h
  go_enter Try.func76, Try.ntmps76
  go_wp2_with (first | (go_at_call 72; refine (right_any _ _).mono ?_; rintro e w' ⟨rfl, rfl⟩) | (go_at_call 107; refine (in_any _ _ _).mono ?_; rintro e w' ⟨rfl, rfl⟩) | (go_at_call 108; refine (up_any _ _ _ (by omega) (by omega) (by omega) (by omega)).mono ?_; rintro e w' ⟨rfl, rfl⟩))
  go_ret2
  exact ⟨rfl, rfl⟩
theorem off_parts {s u : Int} (h : offB s u = false) : rightB s = true ∧ -262144 < u ∧ u ≤ 262144 := by
  unfold offB at h
  simp at h
  omega
theorem un_one (s : Int) : un s 1 = uw s := by unfold un; rw [Int.one_mul]
theorem un_lt {s : Int} (h : rightB s = true) {i u : Int} : un s i < u ↔ i < cl s u := by
  have c := cl_bounds h u
  unfold un at c ⊢
  rcases uw_cases h with e | e | e | e | e | e | e | e | e | e | e | e | e <;> rw [e] at c ⊢ <;> omega
theorem tdiv_le_cl {s : Int} (h : rightB s = true) {u : Int} (hu : u < 0) : u.tdiv (uw s) ≤ cl s u ∧ -262144 * 4096 ≤ u.tdiv (uw s) ∨ u < -262144 * 4096 := by
  by_cases hb : u < -262144 * 4096
  · exact .inr hb
  refine .inl ?_
  have e : u.tdiv (uw s) = -((-u) / uw s) := by
    have := Int.neg_tdiv (a := -u) (b := uw s)
    rw [Int.neg_neg] at this
    rw [this, Int.tdiv_eq_ediv_of_nonneg (by omega)]
  rw [e, cl_eq]
  rcases uw_cases h with f | f | f | f | f | f | f | f | f | f | f | f | f <;> rw [f] <;> omega
theorem div_le_cl {s : Int} (h : rightB s = true) {u : Int} (hu : 0 ≤ u) : u / uw s ≤ cl s u ∧ 0 ≤ u / uw s := by
  rw [cl_eq]
  rcases uw_cases h with f | f | f | f | f | f | f | f | f | f | f | f | f <;> rw [f] <;> omega
theorem refof_no (s u : Int) (w : World) (h : offB s u = true) :
    Calls Try.prog 134 #[.int .i64 s, .int .i64 u] w fun e w' => e = .returned (.tuple #[.int .i64 0, .bool false]) ∧ w = w' := by
  unfold offB at h
  rcases hF : rightB s with _ | _
  · clear h
    go_enter Try.func134, Try.ntmps134
    go_wp2_with (go_at_call 78; refine (refright_any _ _).mono ?_; rintro e w' ⟨rfl, rfl⟩)
    go_ret2
    exact ⟨rfl, rfl⟩
  · rw [hF] at h
    simp at h
    by_cases h1 : u ≤ -262144
    · have h2 : decide (u ≤ -262144) = true := by simpa using h1
      clear h
      go_enter Try.func134, Try.ntmps134
      go_wp2_with (go_at_call 78; refine (refright_any _ _).mono ?_; rintro e w' ⟨rfl, rfl⟩)
      go_ret2
      exact ⟨rfl, rfl⟩
    · have h2 : decide (u ≤ -262144) = false := by simpa using h1
      have h4 : 262144 < u := by omega
      have h3 : decide (262144 < u) = true := by simpa using h4
      clear h
      go_enter Try.func134, Try.ntmps134
      go_wp2_with (go_at_call 78; refine (refright_any _ _).mono ?_; rintro e w' ⟨rfl, rfl⟩)
      go_ret2
      exact ⟨rfl, rfl⟩
set_option maxHeartbeats 1000000 in
theorem refof_yes (s u : Int) (w : World) (h : offB s u = false) :
    Calls Try.prog 134 #[.int .i64 s, .int .i64 u] w fun e w' => e = .returned (.tuple #[.int .i64 (cl s u), .bool true]) ∧ w = w' := by
  obtain ⟨hF, h1, h2⟩ := off_parts h
  obtain ⟨d1, d2⟩ := cl_bd hF h1 h2
  have h3 : decide (u ≤ -262144) = false := by simpa using h1
  have h4 : decide (262144 < u) = false := by simpa using h2
  have hw := uw_bd hF
  obtain ⟨p1, p2⟩ := hw
  have HF := Lib.hid hF
  have HU := Lib.hid (show ∀ i, un s i < u ↔ i < cl s u from fun i => un_lt hF)
  obtain ⟨m1, m2⟩ := un_bd (i := cl s u - 1) hF 262144 (by omega) (by omega)
  have g2 : decide (u ≤ un s (cl s u - 1)) = false := by
    have := (HU.out (cl s u - 1)).2 (by omega)
    simp; omega
  clear h
  by_cases hu : 0 ≤ u
  · obtain ⟨q1, q2⟩ := div_le_cl hF hu
    go_enter Try.func134, Try.ntmps134
    go_wp2_with (first | (go_at_call 78; refine (refright_any _ _).mono ?_; rintro e w' ⟨rfl, rfl⟩) | (go_at_call 109; refine (refstep_any _ _ HF.out).mono ?_; rintro e w' ⟨rfl, rfl⟩))
    go_loop [6] (fun i => ∃ j : Int, i = .int .i64 j ∧ -1073741824 ≤ j ∧ j ≤ cl s u) (fun i => (cl s u - intOf i).toNat)
    case atStart => exact ⟨_, rfl, by omega, q1⟩
    case round =>
      obtain ⟨j, rfl, hj0, hj1⟩ := hrel
      clear q1 q2
      obtain ⟨n1, n2⟩ := un_bd (i := j) HF.out 1073741824 (by omega) (by omega)
      by_cases hlt : j < cl s u
      · have g1 := (HU.out j).2 hlt
        have g3 : decide (un s j < u) = true := by simpa using g1
        go_wp2_with (go_at_call 80; refine (refunits_yes _ _ _ HF.out (by omega) (by omega)).mono ?_; rintro e w' ⟨rfl, rfl⟩)
        go_round
        case rel => exact ⟨_, rfl, by omega, by omega⟩
        case measure => simp [intOf]; omega
      · obtain rfl : j = cl s u := by omega
        have g1 : ¬ un s (cl s u) < u := fun h => hlt ((HU.out _).1 h)
        have g3 : decide (un s (cl s u) < u) = false := by simpa using g1
        clear hlt
        go_wp2_with (go_at_call 80; refine (refunits_yes _ _ _ HF.out (by omega) (by omega)).mono ?_; rintro e w' ⟨rfl, rfl⟩)
        go_loop [6] (fun i => i = .int .i64 (cl s u)) (fun _ => 0)
        case atStart => rfl
        case round =>
          subst hrel
          go_wp2_with (go_at_call 80; refine (refunits_yes _ _ _ HF.out (by omega) (by omega)).mono ?_; rintro e w' ⟨rfl, rfl⟩)
          go_ret2
          exact ⟨rfl, rfl⟩
  · have q0 := tdiv_le_cl hF (show u < 0 by omega)
    have q1 : u.tdiv (uw s) ≤ cl s u ∧ -262144 * 4096 ≤ u.tdiv (uw s) := by omega
    obtain ⟨q1, q2⟩ := q1
    clear q0
    go_enter Try.func134, Try.ntmps134
    go_wp2_with (first | (go_at_call 78; refine (refright_any _ _).mono ?_; rintro e w' ⟨rfl, rfl⟩) | (go_at_call 109; refine (refstep_any _ _ HF.out).mono ?_; rintro e w' ⟨rfl, rfl⟩))
    go_loop [6] (fun i => ∃ j : Int, i = .int .i64 j ∧ -1073741824 ≤ j ∧ j ≤ cl s u) (fun i => (cl s u - intOf i).toNat)
    case atStart => exact ⟨_, rfl, by omega, q1⟩
    case round =>
      obtain ⟨j, rfl, hj0, hj1⟩ := hrel
      clear q1 q2
      obtain ⟨n1, n2⟩ := un_bd (i := j) HF.out 1073741824 (by omega) (by omega)
      by_cases hlt : j < cl s u
      · have g1 := (HU.out j).2 hlt
        have g3 : decide (un s j < u) = true := by simpa using g1
        go_wp2_with (go_at_call 80; refine (refunits_yes _ _ _ HF.out (by omega) (by omega)).mono ?_; rintro e w' ⟨rfl, rfl⟩)
        go_round
        case rel => exact ⟨_, rfl, by omega, by omega⟩
        case measure => simp [intOf]; omega
      · obtain rfl : j = cl s u := by omega
        have g1 : ¬ un s (cl s u) < u := fun h => hlt ((HU.out _).1 h)
        have g3 : decide (un s (cl s u) < u) = false := by simpa using g1
        clear hlt
        go_wp2_with (go_at_call 80; refine (refunits_yes _ _ _ HF.out (by omega) (by omega)).mono ?_; rintro e w' ⟨rfl, rfl⟩)
        go_loop [6] (fun i => i = .int .i64 (cl s u)) (fun _ => 0)
        case atStart => rfl
        case round =>
          subst hrel
          go_wp2_with (go_at_call 80; refine (refunits_yes _ _ _ HF.out (by omega) (by omega)).mono ?_; rintro e w' ⟨rfl, rfl⟩)
          go_ret2
          exact ⟨rfl, rfl⟩
/-- To's two results, whatever the arguments -/
def toI (f t i : Int) : Int := if okTo f t = true ∧ inB f i = true then toV f t i else 0
def toE (f t i : Int) : Int := if okTo f t = true then (if inB f i = true then 0 else 4) else 20
theorem uw_mul {f t : Int} (hf : rightB f = true) (ht : rightB t = true) (h : t ≤ f) : 2 ^ (f - t).toNat * uw f = uw t := by
  have bf := right_yes hf
  have bt := right_yes ht
  unfold uw
  have e : (8 - t).toNat = (f - t).toNat + (8 - f).toNat := by omega
  rw [e, Int.pow_add]
theorem refto_any (f t i : Int) (w : World) :
    Calls Try.prog 122 #[.int .i64 f, .int .i64 t, .int .i64 i] w fun e w' => e = .returned (.tuple #[.int .i64 (toI f t i), .int .i64 (toE f t i)]) ∧ w = w' := by
  rcases ho : okTo f t with _ | _
  · have e1 : toI f t i = 0 := by unfold toI; rw [if_neg (by rw [ho]; simp)]
    have e2 : toE f t i = 20 := by unfold toE; rw [if_neg (by rw [ho]; simp)]
    rw [e1, e2]
    clear e1 e2
    unfold okTo at ho
    rcases hF : rightB f with _ | _
    · clear ho
      go_enter Try.func122, Try.ntmps122
      go_wp2_with (go_at_call 78; ((with_reducible refine (refright_any _ _).mono ?_); rintro e w' ⟨rfl, rfl⟩))
      go_ret2
      exact ⟨rfl, rfl⟩
    · rcases hT : rightB t with _ | _
      · clear ho
        go_enter Try.func122, Try.ntmps122
        go_wp2_with (go_at_call 78; ((with_reducible refine (refright_any _ _).mono ?_); rintro e w' ⟨rfl, rfl⟩))
        go_ret2
        exact ⟨rfl, rfl⟩
      · rw [hF, hT, Bool.true_and, Bool.true_and, decide_eq_false_iff_not] at ho
        have h1 : decide (f < t) = true := by simp; omega
        have h2 : f < t := by omega
        clear ho
        go_enter Try.func122, Try.ntmps122
        go_wp2_with (go_at_call 78; ((with_reducible refine (refright_any _ _).mono ?_); rintro e w' ⟨rfl, rfl⟩))
        go_ret2
        exact ⟨rfl, rfl⟩
  · obtain ⟨hF, hT, h1⟩ := ok_parts ho
    have h2 : decide (f < t) = false := by simp; omega
    rcases hi : inB f i with _ | _
    · have e1 : toI f t i = 0 := by unfold toI; rw [if_neg (by rw [hi]; simp)]
      have e2 : toE f t i = 4 := by unfold toE; rw [if_pos ho, if_neg (by rw [hi]; simp)]
      rw [e1, e2]
      clear e1 e2 ho
      go_enter Try.func122, Try.ntmps122
      go_wp2_with (first | (go_at_call 78; ((with_reducible refine (refright_any _ _).mono ?_); rintro e w' ⟨rfl, rfl⟩)) | (go_at_call 79; ((with_reducible refine (refin_any _ _ _).mono ?_); rintro e w' ⟨rfl, rfl⟩)))
      go_ret2
      exact ⟨rfl, rfl⟩
    · have e1 : toI f t i = toV f t i := by unfold toI; rw [if_pos ⟨ho, hi⟩]
      have e2 : toE f t i = 0 := by unfold toE; rw [if_pos ho, if_pos hi]
      rw [e1, e2, to_cl hF hT h1]
      obtain ⟨q1, q2⟩ := (in_iff hF).1 hi
      have HO := Lib.hid (show offB t (un f i) = false by unfold offB; rw [hT]; simp; omega)
      have HF := Lib.hid hF
      clear e1 e2 ho
      go_enter Try.func122, Try.ntmps122
      go_wp2_with (first | (go_at_call 78; ((with_reducible refine (refright_any _ _).mono ?_); rintro e w' ⟨rfl, rfl⟩)) | (go_at_call 79; ((with_reducible refine (refin_any _ _ _).mono ?_); rintro e w' ⟨rfl, rfl⟩)) | (go_at_call 80; ((with_reducible refine (refunits_yes _ _ _ HF.out (by omega) (by omega)).mono ?_); rintro e w' ⟨rfl, rfl⟩)) | (go_at_call 134; ((with_reducible refine (refof_yes _ _ _ HO.out).mono ?_); rintro e w' ⟨rfl, rfl⟩)))
      go_ret2
      exact ⟨rfl, rfl⟩
/-- the cells of a slice of whole numbers -/
def RowI (w : World) (b off len : Nat) (f : Nat → Int) : Prop :=
  len ≤ 9223372036854775807 ∧ ∀ i, i < len → w.cell? ⟨b, off + i, none⟩ = some (.int .i64 (f i)) ∧ -9223372036854775808 ≤ f i ∧ f i ≤ 9223372036854775807
/-- the library's sum with carry, at a carry of nought: the model's own entry -/
theorem add64_0 (x y : Int) (w : World) (hx : 0 ≤ x) (hy : 0 ≤ y) : (callFunc 86 #[.int .u64 x, .int .u64 y, .int .u64 0]).run Try.prog w =
    .ok (.value (.tuple #[.int .u64 ((x + y) % 18446744073709551616), .int .u64 ((x + y) / 18446744073709551616)])) w := by
  rw [run_callFunc_extern Try.func86 (by kernel_rfl) (by kernel_rfl) (by kernel_rfl) (e := add64Entry) (by kernel_rfl), run_add64 x y 0 hx hy (Int.le_refl 0) (by decide)]
  simp only [Result.andThen, Int.add_zero]
theorem addint_row (b off len cap : Nat) (f : Nat → Int) (w : World) (hr : RowI w b off len f) :
    Calls Try.prog 44 #[.slice (some ⟨b, off, none⟩) len cap] w fun e w' => e = .returned (.tuple #[.int .i64 (intV (sumTo f len)), .int .i64 (intE (sumTo f len))]) ∧ w = w' := by
  obtain ⟨hm, hc⟩ := hr
  have HC := Lib.hid hc
  clear hc
  go_enter Try.func44, Try.ntmps44
  go_wp2
  go_loop [13, 4, 5] (fun i h l => ∃ (k : Nat) (p q : Int), k ≤ len ∧ i = .int .i64 k ∧ h = .int .i64 p ∧ l = .int .u64 q ∧ p * 18446744073709551616 + q = sumTo f k ∧ 0 ≤ q ∧ q ≤ 18446744073709551615 ∧ -(k : Int) ≤ p ∧ p ≤ k) (fun i _ _ => len - (intOf i).toNat)
  case atStart => exact ⟨0, 0, 0, Nat.zero_le _, rfl, rfl, rfl, rfl, by decide, by decide, by decide, by decide⟩
  case round =>
    obtain ⟨k, p, q, hk, rfl, rfl, rfl, hs, q0, q1, p0, p1⟩ := hrel
    by_cases hlt : k < len
    · obtain ⟨c1, c2, c3⟩ := HC.out k hlt
      have hs' : sumTo f (k + 1) = sumTo f k + f k := rfl
      have HS := Lib.hid hs
      have HS' := Lib.hid hs'
      clear hs hs'
      obtain ⟨u, hu⟩ : ∃ u, IntKind.u64.wrap (f k) = u := ⟨_, rfl⟩
      have hu' : u = f k % 18446744073709551616 := by rw [← hu, IntKind.wrap_u64]
      have u0 : 0 ≤ u := by omega
      have u1 : u < 18446744073709551616 := by omega
      have HU := Lib.hid hu'
      clear hu'
      have v0 : 0 ≤ (q + u) / 18446744073709551616 := by omega
      have v1 : (q + u) / 18446744073709551616 ≤ 1 := by omega
      go_wp2_with (simp only [add64_0 _ _ _ q0 u0])
      go_round
      case rel =>
        have h1 := HS.out
        have h2 := HS'.out
        have h3 := HU.out
        exact ⟨k + 1, _, _, by omega, by go_num, rfl, rfl, by rw [h2, ← h1]; omega, by omega, by omega, by omega, by omega⟩
      case measure => simp [intOf]; omega
    · obtain rfl : k = len := by omega
      have HS := Lib.hid hs
      clear hs
      by_cases hq : q < 9223372036854775808
      · by_cases hp : p = 0
        · obtain ⟨e1, e2⟩ := int_fits (s := sumTo f k) (by have := HS.out; unfold inI64; omega)
          have E1 : Hid (intV (sumTo f k) = q) := by have := HS.out; unfold Hid; omega
          have E2 := Lib.hid e2
          have p2 : 0 ≤ p := by omega
          have p3 : p ≤ 0 := by omega
          clear e1 e2 hp
          go_wp2
          go_ret2
          exact ⟨ret_pair E1.out.symm E2.out.symm, rfl⟩
        · obtain ⟨e1, e2⟩ := int_over (s := sumTo f k) (by have := HS.out; unfold inI64; omega)
          have E1 := Lib.hid e1
          have E2 := Lib.hid e2
          have ht : (p != q / 9223372036854775808) = true := by simp; omega
          clear e1 e2 hp
          go_wp2
          go_ret2
          exact ⟨ret_pair E1.out.symm E2.out.symm, rfl⟩
      · obtain ⟨z, hz⟩ : ∃ z, wrap64 q = z := ⟨_, rfl⟩
        have hz' : z = q - 18446744073709551616 := by rw [← hz]; unfold wrap64; omega
        have z0 : z ≤ q - 18446744073709551616 := by omega
        have z1 : q - 18446744073709551616 ≤ z := by omega
        clear hz'
        by_cases hp : p = -1
        · obtain ⟨e1, e2⟩ := int_fits (s := sumTo f k) (by have := HS.out; unfold inI64; omega)
          have E1 : Hid (intV (sumTo f k) = z) := by have := HS.out; unfold Hid; omega
          have E2 := Lib.hid e2
          have ht : (p != z / 9223372036854775808) = false := by simp; omega
          clear e1 e2 hp
          go_wp2
          go_ret2
          exact ⟨ret_pair E1.out.symm E2.out.symm, rfl⟩
        · obtain ⟨e1, e2⟩ := int_over (s := sumTo f k) (by have := HS.out; unfold inI64; omega)
          have E1 := Lib.hid e1
          have E2 := Lib.hid e2
          have ht : (p != z / 9223372036854775808) = true := by simp; omega
          clear e1 e2 hp
          go_wp2
          go_ret2
          exact ⟨ret_pair E1.out.symm E2.out.symm, rfl⟩
def subV (a b : Int) : Int := if a < b then 0 else a - b
def subE (a b : Int) : Int := if a < b then 5 else 0
theorem sub_any (a b : Int) (w : World) (a1 : a ≤ 18446744073709551615) (b0 : 0 ≤ b) :
    Calls Try.prog 51 #[.int .u64 a, .int .u64 b] w fun e w' => e = .returned (.tuple #[.int .u64 (subV a b), .int .i64 (subE a b)]) ∧ w = w' := by
  by_cases h : a < b
  · have E1 : Hid (subV a b = 0) := if_pos h
    have E2 : Hid (subE a b = 5) := if_pos h
    go_enter Try.func51, Try.ntmps51
    go_wp2
    go_ret2
    exact ⟨ret_pair E1.out.symm E2.out.symm, rfl⟩
  · have E1 : Hid (subV a b = a - b) := if_neg h
    have E2 : Hid (subE a b = 0) := if_neg h
    go_enter Try.func51, Try.ntmps51
    go_wp2
    go_ret2
    exact ⟨ret_pair E1.out.symm E2.out.symm, rfl⟩
theorem subint_any (a b : Int) (w : World) (a0 : -9223372036854775808 ≤ a) (a1 : a ≤ 9223372036854775807) (b0 : -9223372036854775808 ≤ b) (b1 : b ≤ 9223372036854775807) :
    Calls Try.prog 53 #[.int .i64 a, .int .i64 b] w fun e w' => e = .returned (.tuple #[.int .i64 (intV (a - b)), .int .i64 (intE (a - b))]) ∧ w = w' := by
  by_cases hp : 0 < b
  · by_cases h : a < -9223372036854775808 + b
    · obtain ⟨e1, e2⟩ := int_over (s := a - b) (by unfold inI64; omega)
      have E1 := Lib.hid e1
      have E2 := Lib.hid e2
      clear e1 e2
      go_enter Try.func53, Try.ntmps53
      go_wp2
      go_ret2
      exact ⟨ret_pair E1.out.symm E2.out.symm, rfl⟩
    · obtain ⟨e1, e2⟩ := int_fits (s := a - b) (by unfold inI64; omega)
      have E1 := Lib.hid e1
      have E2 := Lib.hid e2
      clear e1 e2
      go_enter Try.func53, Try.ntmps53
      go_wp2
      go_ret2
      exact ⟨ret_pair E1.out.symm E2.out.symm, rfl⟩
  · by_cases hn : b < 0
    · by_cases h : 9223372036854775807 + b < a
      · obtain ⟨e1, e2⟩ := int_over (s := a - b) (by unfold inI64; omega)
        have E1 := Lib.hid e1
        have E2 := Lib.hid e2
        clear e1 e2
        go_enter Try.func53, Try.ntmps53
        go_wp2
        go_ret2
        exact ⟨ret_pair E1.out.symm E2.out.symm, rfl⟩
      · obtain ⟨e1, e2⟩ := int_fits (s := a - b) (by unfold inI64; omega)
        have E1 := Lib.hid e1
        have E2 := Lib.hid e2
        clear e1 e2
        go_enter Try.func53, Try.ntmps53
        go_wp2
        go_ret2
        exact ⟨ret_pair E1.out.symm E2.out.symm, rfl⟩
    · obtain ⟨e1, e2⟩ := int_fits (s := a - b) (by unfold inI64; omega)
      have E1 := Lib.hid e1
      have E2 := Lib.hid e2
      clear e1 e2
      have hz : (0 : Int) ≤ b := by omega
      go_enter Try.func53, Try.ntmps53
      go_wp2
      go_ret2
      exact ⟨ret_pair E1.out.symm E2.out.symm, rfl⟩
theorem refaddint_row (b off len cap : Nat) (f : Nat → Int) (w : World) (hr : RowI w b off len f) (hlen : len ≤ 1000) :
    Calls Try.prog 46 #[.slice (some ⟨b, off, none⟩) len cap] w fun e w' => e = .returned (.tuple #[.int .i64 (intV (sumTo f len)), .int .i64 (intE (sumTo f len))]) ∧ w = w' := by
  obtain ⟨hm, hc⟩ := hr
  have HC := Lib.hid hc
  clear hc hm
  go_enter Try.func46, Try.ntmps46
  go_wp2
  go_loop [6, 4, 5] (fun i h l => ∃ (k : Nat) (p q : Int), k ≤ len ∧ i = .int .i64 k ∧ h = .int .i64 p ∧ l = .int .i64 q ∧ p * 4294967296 + q = sumTo f k ∧ 0 ≤ q ∧ q ≤ k * 4294967295 ∧ -(k : Int) * 2147483648 ≤ p ∧ p ≤ k * 2147483648) (fun i _ _ => len - (intOf i).toNat)
  case atStart => exact ⟨0, 0, 0, Nat.zero_le _, rfl, rfl, rfl, rfl, by decide, by decide, by decide, by decide⟩
  case round =>
    obtain ⟨k, p, q, hk, rfl, rfl, rfl, hs, q0, q1, p0, p1⟩ := hrel
    by_cases hlt : k < len
    · obtain ⟨c1, c2, c3⟩ := HC.out k hlt
      have hs' : sumTo f (k + 1) = sumTo f k + f k := rfl
      have HS := Lib.hid hs
      have HS' := Lib.hid hs'
      clear hs hs'
      by_cases hn : 0 ≤ f k
      · go_wp2
        go_round
        case rel =>
          have h1 := HS.out
          have h2 := HS'.out
          exact ⟨k + 1, _, _, by omega, by go_num, rfl, rfl, by rw [h2, ← h1]; omega, by omega, by omega, by omega, by omega⟩
        case measure => simp [intOf]; omega
      · obtain ⟨g1, g2⟩ := half_neg (n := f k) (by omega)
        obtain ⟨t0, t1⟩ := tdiv_bounds (n := f k) (p := 4294967296) 9223372036854775808 (by decide) c2 (by omega)
        obtain ⟨m0, m1⟩ := tmod_bd (f k) (p := 4294967296) (by decide)
        have G1 := Lib.hid g1
        have G2 := Lib.hid g2
        clear g1 g2
        by_cases hm : (f k).tmod 4294967296 < 0
        · obtain ⟨x1, x2⟩ := G1.out hm
          have X1 := Lib.hid x1
          have X2 := Lib.hid x2
          have y0 : -2147483648 ≤ (f k).tdiv 4294967296 - 1 := by omega
          have y1 : (f k).tdiv 4294967296 - 1 ≤ 0 := by omega
          clear x1 x2 G2
          go_wp2
          go_round
          case rel =>
            have h1 := HS.out
            have h2 := HS'.out
            have x1 := X1.out
            have x2 := X2.out
            exact ⟨k + 1, _, _, by omega, by go_num, rfl, rfl, by rw [h2, ← h1]; omega, by omega, by omega, by omega, by omega⟩
          case measure => simp [intOf]; omega
        · obtain ⟨x1, x2⟩ := G2.out (by omega)
          have X1 := Lib.hid x1
          have X2 := Lib.hid x2
          have y0 : -2147483648 ≤ (f k).tdiv 4294967296 := by omega
          clear x1 x2 G1
          go_wp2
          go_round
          case rel =>
            have h1 := HS.out
            have h2 := HS'.out
            have x1 := X1.out
            have x2 := X2.out
            exact ⟨k + 1, _, _, by omega, by go_num, rfl, rfl, by rw [h2, ← h1]; omega, by omega, by omega, by omega, by omega⟩
          case measure => simp [intOf]; omega
    · obtain rfl : k = len := by omega
      have HS := Lib.hid hs
      clear hs
      by_cases hA : 2147483647 < p + q / 4294967296
      · obtain ⟨e1, e2⟩ := int_over (s := sumTo f k) (by have := HS.out; unfold inI64; omega)
        have E1 := Lib.hid e1
        have E2 := Lib.hid e2
        clear e1 e2
        go_wp2
        go_ret2
        exact ⟨ret_pair E1.out.symm E2.out.symm, rfl⟩
      · by_cases hB : p + q / 4294967296 < -2147483648
        · obtain ⟨e1, e2⟩ := int_over (s := sumTo f k) (by have := HS.out; unfold inI64; omega)
          have E1 := Lib.hid e1
          have E2 := Lib.hid e2
          clear e1 e2
          go_wp2
          go_ret2
          exact ⟨ret_pair E1.out.symm E2.out.symm, rfl⟩
        · obtain ⟨e1, e2⟩ := int_fits (s := sumTo f k) (by have := HS.out; unfold inI64; omega)
          have E1 : Hid (intV (sumTo f k) = (p + q / 4294967296) * 4294967296 + q % 4294967296) := by have := HS.out; unfold Hid; omega
          have E2 := Lib.hid e2
          clear e1 e2
          go_wp2
          go_ret2
          exact ⟨ret_pair E1.out.symm E2.out.symm, rfl⟩
end Go.Proofs.Ytbibhjcmdehdbaa
