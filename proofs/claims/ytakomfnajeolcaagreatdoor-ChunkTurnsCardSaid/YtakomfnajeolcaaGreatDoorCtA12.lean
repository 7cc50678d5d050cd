import Derived.Test.YtakomfnajeolcaaGreatDoorCtA11
set_option linter.unusedVariables false
/- Contracts of the program's functions on bounds and sums that histograms use, and of the document's own: what each returns, and that it leaves memory as it is. -/
namespace Go.Proofs.YtakomfnajeolcaaGreatDoor
open Go.RowKit

theorem ret_int {k : IntKind} {a b : Int} (h : a = b) : Ending.returned (.int k a) = .returned (.int k b) := by rw [h]
theorem ret_val {k : IntKind} {a b : Int} (h : a = b) : Value.int k a = .int k b := by rw [h]
theorem ret_bool {a b : Bool} (h : a = b) : Ending.returned (.bool a) = .returned (.bool b) := by rw [h]

theorem down_any (n k : Int) (w : World) (h0 : 0 ≤ k) (h1 : k ≤ 60) :
    Calls Tryz.prog 124 #[.int .i64 n, .int .u64 k] w fun e w' => e = .returned (.int .i64 (n / 2 ^ k.toNat)) ∧ w = w' := by
  go_enter Tryz.func124, Tryz.ntmps124
  go_wp2
  go_ret
  exact ⟨rfl, rfl⟩

theorem right_any (s : Int) (w : World) :
    Calls Tryz.prog 83 #[.int .i64 s] w fun e w' => e = .returned (.bool (rightB s)) ∧ w = w' := by
  by_cases h1 : -4 ≤ s
  · by_cases h2 : s ≤ 8
    · have hE := Lib.hid (show true = rightB s by unfold rightB; simp [h1, h2])
      go_enter Tryz.func83, Tryz.ntmps83
      go_wp2
      go_ret
      exact ⟨ret_bool hE.out, rfl⟩
    · have hE := Lib.hid (show false = rightB s by unfold rightB; simp [h1, h2])
      have h3 : decide (s ≤ 8) = false := by simpa using h2
      go_enter Tryz.func83, Tryz.ntmps83
      go_wp2
      go_ret
      exact ⟨ret_bool hE.out, rfl⟩
  · have hE := Lib.hid (show false = rightB s by unfold rightB; simp [h1])
    have h3 : decide (-4 ≤ s) = false := by simpa using h1
    go_enter Tryz.func83, Tryz.ntmps83
    go_wp2
    go_ret
    exact ⟨ret_bool hE.out, rfl⟩

theorem wide_any (s : Int) (w : World) (h0 : -4 ≤ s) (h1 : s ≤ 8) :
    Calls Tryz.prog 125 #[.int .i64 s] w fun e w' => e = .returned (.int .u64 (8 - s)) ∧ w = w' := by
  go_enter Tryz.func125, Tryz.ntmps125
  go_wp2
  go_ret
  exact ⟨rfl, rfl⟩

theorem units_yes (s i : Int) (w : World) (R : rightB s = true) (h1 : -9223372036854775808 ≤ un s i) (h2 : un s i ≤ 9223372036854775807) :
    Calls Tryz.prog 110 #[.int .i64 s, .int .i64 i] w fun e w' => e = .returned (.int .i64 (un s i)) ∧ w = w' := by
  obtain ⟨b1, b2⟩ := right_yes R
  have hE := Lib.hid (show un s i = i * 2 ^ (8 - s).toNat from rfl)
  rw [hE.out] at h1 h2
  go_enter Tryz.func110, Tryz.ntmps110
  go_wp2_with (first | (go_at_call 83; refine (right_any _ _).mono ?_; rintro e w' ⟨rfl, rfl⟩) | (go_at_call 125; refine (wide_any _ _ (by omega) (by omega)).mono ?_; rintro e w' ⟨rfl, rfl⟩))
  go_ret
  exact ⟨ret_int hE.out.symm, rfl⟩
theorem low_yes (s i : Int) (w : World) (R : rightB s = true) (hi1 : -4611686018427387904 ≤ i) (hi2 : i ≤ 4611686018427387904) (h1 : -9223372036854775808 ≤ un s (i - 1)) (h2 : un s (i - 1) ≤ 9223372036854775807) :
    Calls Tryz.prog 85 #[.int .i64 s, .int .i64 i] w fun e w' => e = .returned (.int .i64 (un s (i - 1))) ∧ w = w' := by
  go_enter Tryz.func85, Tryz.ntmps85
  go_wp2_with (go_at_call 110; refine (units_yes _ _ _ R h1 h2).mono ?_; rintro e w' ⟨rfl, rfl⟩)
  go_ret
  exact ⟨rfl, rfl⟩
theorem most_any (s : Int) (w : World) :
    Calls Tryz.prog 109 #[.int .i64 s] w fun e w' => e = .returned (.int .i64 (mostV s)) ∧ w = w' := by
  rcases hR : rightB s with _ | _
  · have hE := Lib.hid (show 0 = mostV s by unfold mostV; rw [hR]; rfl)
    go_enter Tryz.func109, Tryz.ntmps109
    go_wp2_with (go_at_call 83; refine (right_any _ _).mono ?_; rintro e w' ⟨rfl, rfl⟩)
    go_ret
    exact ⟨ret_int hE.out, rfl⟩
  · have hE := Lib.hid (show 262144 / 2 ^ (8 - s).toNat = mostV s by unfold mostV; rw [hR]; rfl)
    obtain ⟨b1, b2⟩ := right_yes hR
    go_enter Tryz.func109, Tryz.ntmps109
    go_wp2_with (first | (go_at_call 83; refine (right_any _ _).mono ?_; rintro e w' ⟨rfl, rfl⟩) | (go_at_call 125; refine (wide_any _ _ (by omega) (by omega)).mono ?_; rintro e w' ⟨rfl, rfl⟩) | (go_at_call 124; refine (down_any _ _ _ (by omega) (by omega)).mono ?_; rintro e w' ⟨rfl, rfl⟩))
    go_ret
    exact ⟨ret_int hE.out, rfl⟩
theorem least_any (s : Int) (w : World) :
    Calls Tryz.prog 108 #[.int .i64 s] w fun e w' => e = .returned (.int .i64 (leastV s)) ∧ w = w' := by
  obtain ⟨b1, b2⟩ := most_bd s
  have hE := Lib.hid (show 1 - mostV s = leastV s from rfl)
  go_enter Tryz.func108, Tryz.ntmps108
  go_wp2_with (go_at_call 109; refine (most_any _ _).mono ?_; rintro e w' ⟨rfl, rfl⟩)
  go_ret
  exact ⟨ret_int hE.out, rfl⟩
theorem in_any (s i : Int) (w : World) :
    Calls Tryz.prog 84 #[.int .i64 s, .int .i64 i] w fun e w' => e = .returned (.bool (inB s i)) ∧ w = w' := by
  by_cases h1 : leastV s ≤ i
  · have h3 : decide (leastV s ≤ i) = true := by simpa using h1
    have hE := Lib.hid (show decide (i ≤ mostV s) = inB s i by unfold inB; simp [h1])
    clear h1
    go_enter Tryz.func84, Tryz.ntmps84
    go_wp2_with (first | (go_at_call 108; refine (least_any _ _).mono ?_; rintro e w' ⟨rfl, rfl⟩) | (go_at_call 109; refine (most_any _ _).mono ?_; rintro e w' ⟨rfl, rfl⟩))
    go_ret
    exact ⟨ret_bool hE.out, rfl⟩
  · have h3 : decide (leastV s ≤ i) = false := by simpa using h1
    have hE := Lib.hid (show false = inB s i by unfold inB; simp [h1])
    clear h1
    go_enter Tryz.func84, Tryz.ntmps84
    go_wp2_with (first | (go_at_call 108; refine (least_any _ _).mono ?_; rintro e w' ⟨rfl, rfl⟩) | (go_at_call 109; refine (most_any _ _).mono ?_; rintro e w' ⟨rfl, rfl⟩))
    go_ret
    exact ⟨ret_bool hE.out, rfl⟩

theorem ret_pair {k l : IntKind} {a b c d : Int} (h : a = b) (g : c = d) : Ending.returned (.tuple #[.int k a, .int l c]) = .returned (.tuple #[.int k b, .int l d]) := by rw [h, g]

/-- the cells of a slice of counts, by a function of the place -/
def RowU (w : World) (b off len : Nat) (f : Nat → Int) : Prop :=
  len ≤ 9223372036854775807 ∧ ∀ i, i < len → w.cell? ⟨b, off + i, none⟩ = some (.int .u64 (f i)) ∧ 0 ≤ f i ∧ f i ≤ 18446744073709551615
theorem add_row (b off len cap : Nat) (f : Nat → Int) (w : World) (hr : RowU w b off len f) :
    Calls Tryz.prog 86 #[.slice (some ⟨b, off, none⟩) len cap] w fun e w' => e = .returned (.tuple #[.int .u64 (addV f len), .int .i64 (addE f len)]) ∧ w = w' := by
  obtain ⟨hm, hc⟩ := hr
  have hn : ∀ i, i < len → 0 ≤ f i := fun i hi => (hc i hi).2.1
  have HN := Lib.hid hn
  have HC := Lib.hid hc
  clear hn hc
  go_enter Tryz.func86, Tryz.ntmps86
  go_wp2
  go_loop [9, 4] (fun i s => ∃ k : Nat, k ≤ len ∧ i = .int .i64 k ∧ s = .int .u64 (sumTo f k) ∧ 0 ≤ sumTo f k ∧ sumTo f k ≤ 18446744073709551615) (fun i _ => len - (intOf i).toNat)
  case atStart => exact ⟨0, Nat.zero_le _, rfl, rfl, Int.le_refl _, by show (0 : Int) ≤ _; decide⟩
  case round =>
    obtain ⟨k, hk, rfl, rfl, s0, s1⟩ := hrel
    by_cases hlt : k < len
    · obtain ⟨c1, c2, c3⟩ := HC.out k hlt
      by_cases ho : 18446744073709551615 - sumTo f k < f k
      · have hov := add_over HN.out hlt (show maxU < sumTo f k + f k by unfold maxU; omega)
        have E1 := Lib.hid hov.1
        have E2 := Lib.hid hov.2
        clear hov
        go_wp2
        go_ret2
        exact ⟨ret_pair E1.out.symm E2.out.symm, rfl⟩
      · have hs : sumTo f (k + 1) = sumTo f k + f k := rfl
        have HS := Lib.hid hs
        clear hs
        go_wp2
        go_round
        case rel => exact ⟨k + 1, by omega, by go_num, rfl, by rw [HS.out]; omega, by rw [HS.out]; omega⟩
        case measure => simp [intOf]; omega
    · obtain rfl : k = len := by omega
      obtain ⟨e1, e2⟩ := add_fits (f := f) (n := k) s1
      have E1 := Lib.hid e1
      have E2 := Lib.hid e2
      clear e1 e2
      go_wp2
      go_ret2
      exact ⟨ret_pair E1.out.symm E2.out.symm, rfl⟩

end Go.Proofs.YtakomfnajeolcaaGreatDoor


/- Histograms' buckets as they lie in memory; contracts of sides, signs and sums. -/
namespace Go.Proofs.YtakomfnajeolcaaGreatDoor
open Go.RowKit Go.Sort
set_option linter.unusedVariables false

/-- an index that an int has, a count that a uint64 has -/
def Wb (p : Int × Int) : Prop := -9223372036854775808 ≤ p.1 ∧ p.1 ≤ 9223372036854775807 ∧ 0 ≤ p.2 ∧ p.2 ≤ 18446744073709551615
/-- a slice of buckets whose address is A reads as l -/
def Bk (w : World) (A : Option Addr) (l : List (Int × Int)) : Prop :=
  l.length ≤ 9223372036854775807 ∧ (∀ p ∈ l, Wb p) ∧ (l.length = 0 ∨ ∃ b off, A = some ⟨b, off, none⟩ ∧ ∀ (j : Nat) (p : Int × Int), l[j]? = some p → w.cell? ⟨b, off + j * 2, none⟩ = some (.int .i64 p.1) ∧ w.cell? ⟨b, off + j * 2 + 1, none⟩ = some (.int .u64 p.2))
/-- all cells that there are are kept -/
def Kept (w w' : World) : Prop := ∀ (p : Addr) (v : Value), w.cell? p = some v → w'.cell? p = some v
theorem Kept.of_below {w w' : World} (h : Below w.heap.size w w') : Kept w w' := fun p v hp => (h.cell (block_lt_of_cell hp)).trans hp
theorem Kept.trans {a b c : World} (h : Kept a b) (k : Kept b c) : Kept a c := fun p v hp => k p v (h p v hp)
theorem Bk.kept {w w' : World} {A : Option Addr} {l : List (Int × Int)} (h : Bk w A l) (k : Kept w w') : Bk w' A l := by
  obtain ⟨h1, h2, h3⟩ := h
  refine ⟨h1, h2, ?_⟩
  rcases h3 with h3 | ⟨b, off, e, hc⟩
  · exact .inl h3
  · exact .inr ⟨b, off, e, fun j p hj => ⟨k _ _ (hc j p hj).1, k _ _ (hc j p hj).2⟩⟩
theorem Bk.below {w w' : World} {A : Option Addr} {l : List (Int × Int)} (h : Bk w A l) (hb : Below w.heap.size w w') : Bk w' A l := h.kept (Kept.of_below hb)
theorem Bk.nil (w : World) (A : Option Addr) : Bk w A [] := ⟨by simp, by simp, .inl rfl⟩
theorem Bk.some_ {w : World} {A : Option Addr} {l : List (Int × Int)} (h : Bk w A l) (h0 : 0 < l.length) : ∃ b off, A = some ⟨b, off, none⟩ ∧ ∀ (j : Nat) (p : Int × Int), l[j]? = some p → w.cell? ⟨b, off + j * 2, none⟩ = some (.int .i64 p.1) ∧ w.cell? ⟨b, off + j * 2 + 1, none⟩ = some (.int .u64 p.2) := by
  rcases h.2.2 with h | h
  · omega
  · exact h
theorem getElem?_lt {α : Type} {l : List α} {k : Nat} (h : k < l.length) : ∃ x, l[k]? = some x := ⟨l[k], List.getElem?_eq_getElem h⟩
theorem take_snoc {α : Type} (l : List α) (k : Nat) (x : α) (h : l[k]? = some x) : l.take (k + 1) = l.take k ++ [x] := by
  rw [List.take_add_one, h]; rfl
theorem mem_of_at {α : Type} {l : List α} {k : Nat} {x : α} (h : l[k]? = some x) : x ∈ l := List.mem_of_getElem? h

theorem below_drewN {B : Nat} {a w : World} (h : Below B a w) (n : Nat) : Below B a (w.drewN n) := ⟨h.os, h.tape, h.output, h.size, h.block⟩
/-- a call that leaves the world as it is, where the walk asks for one of a row of worlds -/
theorem stays {P : Program} {f : FuncId} {args : Array Value} {W : World} {v : Value} {row : Nat → World} {at_ : Nat} (same : row at_ = W) (h : Calls P f args W fun e w' => e = .returned v ∧ W = w') :
    Calls P f args W fun e w' => e = .returned v ∧ ∃ k, w' = row k := by
  refine h.mono ?_
  rintro e w' ⟨he, rfl⟩
  exact ⟨he, at_, same.symm⟩
/-- how many observations buckets have -/
def cnt (l : List (Int × Int)) : Int := (l.map (·.2)).sum
theorem cnt_snoc (l : List (Int × Int)) (p : Int × Int) : cnt (l ++ [p]) = cnt l + p.2 := by simp [cnt]
theorem cnt_append (l m : List (Int × Int)) : cnt (l ++ m) = cnt l + cnt m := by simp [cnt]
theorem cnt_nonneg {l : List (Int × Int)} (h : ∀ p ∈ l, Wb p) : 0 ≤ cnt l := by
  induction l with
  | nil => simp [cnt]
  | cons a r ih =>
    have h1 := (h a (by simp)).2.2.1
    have h2 := ih (fun p hp => h p (by simp [hp]))
    simp [cnt] at *
    omega
theorem cnt_take {l : List (Int × Int)} (h : ∀ p ∈ l, Wb p) (k : Nat) : 0 ≤ cnt (l.take k) ∧ cnt (l.take k) ≤ cnt l := by
  have e : cnt l = cnt (l.take k) + cnt (l.drop k) := by rw [← cnt_append, List.take_append_drop]
  have h1 := cnt_nonneg (l := l.take k) (fun p hp => h p (List.mem_of_mem_take hp))
  have h2 := cnt_nonneg (l := l.drop k) (fun p hp => h p (List.mem_of_mem_drop hp))
  omega
def totV (z : Int) (l : List (Int × Int)) : Int := if z + cnt l ≤ 18446744073709551615 then z + cnt l else 0
def totE (z : Int) (l : List (Int × Int)) : Int := if z + cnt l ≤ 18446744073709551615 then 0 else 5

theorem sign_0 (w : World) : Calls Tryz.prog 130 #[.int .i64 0] w fun e w' => e = .returned (.int .i64 1) ∧ w = w' := by
  go_enter Tryz.func130, Tryz.ntmps130
  go_wp2
  go_ret
  exact ⟨rfl, rfl⟩
theorem sign_1 (w : World) : Calls Tryz.prog 130 #[.int .i64 1] w fun e w' => e = .returned (.int .i64 (-1)) ∧ w = w' := by
  go_enter Tryz.func130, Tryz.ntmps130
  go_wp2
  go_ret
  exact ⟨rfl, rfl⟩
theorem place_any (s : Int) (w : World) : Calls Tryz.prog 126 #[.int .i64 s] w fun e w' => e = .returned (.int .i64 (if s < 0 then 1 else 0)) ∧ w = w' := by
  by_cases h : s < 0
  · rw [if_pos h]
    go_enter Tryz.func126, Tryz.ntmps126
    go_wp2
    go_ret
    exact ⟨rfl, rfl⟩
  · rw [if_neg h]
    go_enter Tryz.func126, Tryz.ntmps126
    go_wp2
    go_ret
    exact ⟨rfl, rfl⟩
theorem both_any (v0 v1 v2 v3 v4 v5 : Value) (A B : Option Addr) (n c m d : Nat) (w : World) :
    Calls Tryz.prog 50 #[.agg #[v0, v1, v2, v3, v4, v5, .slice A n c, .slice B m d]] w fun e w' => e = .returned (.agg #[.slice A n c, .slice B m d]) ∧ Below w.heap.size w w' := by
  go_enter Tryz.func50, Tryz.ntmps50
  go_wp2
  exact bodyPost_ret (v := .agg #[.slice A n c, .slice B m d]) (by simp [results, Tryz.results50, go_sem]) rfl ⟨rfl, ((Below.refl _ _).alloc (Nat.le_refl _) _).alloc (by simp) _⟩
end Go.Proofs.YtakomfnajeolcaaGreatDoor


/- The contracts of what is wrong with a histogram. -/
/-! The contract of the sum of all buckets. -/
namespace Go.Proofs.YtakomfnajeolcaaGreatDoor
open Go.RowKit Go.Sort
set_option linter.unusedVariables false

/-- two slices, by their place -/
theorem side_at (A B : Option Addr) (n c m d : Nat) (P Q : List (Int × Int)) (k : Nat) (hk : k < 2) (hn : n = P.length) (hm : m = Q.length) {w : World} (hP : Bk w A P) (hQ : Bk w B Q) :
    ∃ (C : Option Addr) (e : Nat) (l : List (Int × Int)), (∀ w, (Instr.index 99 (.agg #[.slice A n c, .slice B m d]) (.int .i64 (k : Int))).run Tryz.prog w = .ok (.slice C l.length e) w) ∧ Bk w C l ∧ ((k = 0 ∧ l = P) ∨ (k = 1 ∧ l = Q)) := by
  subst hn hm
  rcases (show k = 0 ∨ k = 1 by omega) with rfl | rfl
  · exact ⟨A, c, P, fun _ => by kernel_rfl, hP, .inl ⟨rfl, rfl⟩⟩
  · exact ⟨B, d, Q, fun _ => by kernel_rfl, hQ, .inr ⟨rfl, rfl⟩⟩
/-- the sum of the sides ahead of the k-th -/
def before (P Q : List (Int × Int)) (k : Nat) : Int := if k = 0 then 0 else if k = 1 then cnt P else cnt P + cnt Q
theorem before_succ {P Q l : List (Int × Int)} {k : Nat} (h : (k = 0 ∧ l = P) ∨ (k = 1 ∧ l = Q)) : before P Q (k + 1) = before P Q k + cnt l := by
  rcases h with ⟨rfl, rfl⟩ | ⟨rfl, rfl⟩ <;> simp [before]
theorem before_le {P Q l : List (Int × Int)} {k : Nat} (hP : ∀ p ∈ P, Wb p) (hQ : ∀ p ∈ Q, Wb p) (h : (k = 0 ∧ l = P) ∨ (k = 1 ∧ l = Q)) : 0 ≤ before P Q k ∧ before P Q k + cnt l ≤ cnt (P ++ Q) := by
  have h1 := cnt_nonneg hP
  have h2 := cnt_nonneg hQ
  rw [cnt_append]
  rcases h with ⟨rfl, rfl⟩ | ⟨rfl, rfl⟩ <;> simp [before] <;> omega
theorem two_over {a b : Int} (h0 : 0 ≤ a) (h1 : 0 ≤ b) (h : 18446744073709551615 < a + b) (f : Nat → Int) (e0 : f 0 = a) (e1 : f 1 = b) : addV f 2 = 0 ∧ addE f 2 = 5 := by
  unfold addV addE maxU
  have e : sumTo f 2 = a + b := by simp [sumTo, e0, e1]
  rw [e, if_neg (by omega), if_neg (by omega)]
  exact ⟨rfl, rfl⟩
theorem two_fits {a b : Int} (h : a + b ≤ 18446744073709551615) (f : Nat → Int) (e0 : f 0 = a) (e1 : f 1 = b) : addV f 2 = a + b ∧ addE f 2 = 0 := by
  unfold addV addE maxU
  have e : sumTo f 2 = a + b := by simp [sumTo, e0, e1]
  rw [e, if_pos h, if_pos h]
  exact ⟨rfl, rfl⟩
/-- num.Add of two counts that lie one behind the other -/
theorem add_two (b cap : Nat) (x y : Int) (w : World) (hx : w.cell? ⟨b, 0, none⟩ = some (.int .u64 x)) (hy : w.cell? ⟨b, 1, none⟩ = some (.int .u64 y)) (x0 : 0 ≤ x) (x1 : x ≤ 18446744073709551615) (y0 : 0 ≤ y) (y1 : y ≤ 18446744073709551615) (s : Int) (hs : x + y = s) (h : s ≤ 18446744073709551615) :
    Calls Tryz.prog 86 #[.slice (some ⟨b, 0, none⟩) 2 cap] w fun e w' => e = .returned (.tuple #[.int .u64 s, .int .i64 0]) ∧ w = w' := by
  obtain ⟨e1, e2⟩ := two_fits (a := x) (b := y) (by omega) (fun i => if i = 0 then x else y) rfl rfl
  have := add_row b 0 2 cap (fun i => if i = 0 then x else y) w ⟨by omega, fun i hi => by
    rcases (show i = 0 ∨ i = 1 by omega) with rfl | rfl
    · exact ⟨by simpa using hx, by simpa using x0, by simpa using x1⟩
    · exact ⟨by simpa using hy, by simpa using y0, by simpa using y1⟩⟩
  rw [e1, e2, hs] at this
  exact this
theorem add_two_over (b cap : Nat) (x y : Int) (w : World) (hx : w.cell? ⟨b, 0, none⟩ = some (.int .u64 x)) (hy : w.cell? ⟨b, 1, none⟩ = some (.int .u64 y)) (x0 : 0 ≤ x) (x1 : x ≤ 18446744073709551615) (y0 : 0 ≤ y) (y1 : y ≤ 18446744073709551615) (h : 18446744073709551615 < x + y) :
    Calls Tryz.prog 86 #[.slice (some ⟨b, 0, none⟩) 2 cap] w fun e w' => e = .returned (.tuple #[.int .u64 0, .int .i64 5]) ∧ w = w' := by
  obtain ⟨e1, e2⟩ := two_over x0 y0 h (fun i => if i = 0 then x else y) rfl rfl
  have := add_row b 0 2 cap (fun i => if i = 0 then x else y) w ⟨by omega, fun i hi => by
    rcases (show i = 0 ∨ i = 1 by omega) with rfl | rfl
    · exact ⟨by simpa using hx, by simpa using x0, by simpa using x1⟩
    · exact ⟨by simpa using hy, by simpa using y0, by simpa using y1⟩⟩
  rw [e1, e2] at this
  exact this
theorem ret_tot {z : Int} {l : List (Int × Int)} {a b : Int} (h1 : a = totV z l) (h2 : b = totE z l) : Ending.returned (.tuple #[.int .u64 a, .int .i64 b]) = .returned (.tuple #[.int .u64 (totV z l), .int .i64 (totE z l)]) := by rw [h1, h2]

set_option maxHeartbeats 1000000 in
set_option maxRecDepth 100000 in
theorem total_any (z : Int) (A B : Option Addr) (c d : Nat) (P Q : List (Int × Int)) (w : World) (z0 : 0 ≤ z) (z1 : z ≤ 18446744073709551615) (hP : Bk w A P) (hQ : Bk w B Q) :
    Calls Tryz.prog 52 #[.int .u64 z, .agg #[.slice A P.length c, .slice B Q.length d]] w fun e w' => e = .returned (.tuple #[.int .u64 (totV z (P ++ Q)), .int .i64 (totE z (P ++ Q))]) ∧ Below w.heap.size w w' := by
  have HP := Lib.hid hP
  have HQ := Lib.hid hQ
  clear hP hQ
  go_enter Tryz.func52, Tryz.ntmps52
  go_wp2_with fail
  go_loopw [6, 15] (fun s i wr => ∃ k : Nat, k ≤ 2 ∧ i = .int .i64 k ∧ s = .int .u64 (z + before P Q k) ∧ z + before P Q k ≤ 18446744073709551615 ∧ Below w.heap.size w wr) (fun _ i _ => 2 - (intOf i).toNat)
  case atStart => exact ⟨0, by omega, rfl, by simp [before], by simp [before]; omega, (Below.refl _ _).alloc (Nat.le_refl _) _⟩
  case round =>
    obtain ⟨k, hk, rfl, rfl, hle, hb⟩ := hrel
    have HB := Lib.hid hb
    clear hb
    by_cases hlt : k < 2
    · obtain ⟨C, e, l, hix, hl, hwho⟩ := side_at A B P.length c Q.length d P Q k hlt rfl rfl (HP.out.below HB.out) (HQ.out.below HB.out)
      have hll := hl.1
      have HL := Lib.hid hl
      have HW := Lib.hid hwho
      obtain ⟨b0, b1⟩ := before_le HP.out.2.1 HQ.out.2.1 hwho
      have HS := Lib.hid (before_succ (P := P) (Q := Q) hwho)
      clear hl hwho
      obtain ⟨S, hS⟩ : ∃ S, before P Q k = S := ⟨_, rfl⟩
      rw [hS] at hle b0 b1 HS ⊢
      clear hS
      obtain ⟨T, hT⟩ : ∃ T, cnt (P ++ Q) = T := ⟨_, rfl⟩
      rw [hT] at b1
      have HT := Lib.hid hT
      clear hT
      have hki : (k : Int) < 2 := by omega
      go_wp2_with fail
      obtain ⟨wo, hwo⟩ : ∃ W, W = wr := ⟨_, rfl⟩
      subst hwo
      go_loopw [6, 20] (fun s i wr => ∃ j : Nat, j ≤ l.length ∧ i = .int .i64 j ∧ s = .int .u64 (z + S + cnt (l.take j)) ∧ z + S + cnt (l.take j) ≤ 18446744073709551615 ∧ Below wo.heap.size wo wr) (fun _ i _ => l.length - (intOf i).toNat)
      case atStart => exact ⟨0, by omega, rfl, by simp [cnt], by simp [cnt]; omega, Below.refl _ _⟩
      case round =>
        obtain ⟨j, hj, rfl, rfl, hle2, hb2⟩ := hrel
        have HB2 := Lib.hid hb2
        clear hb2
        by_cases hlj : j < l.length
        · obtain ⟨b', off', rfl, hc'⟩ := (HL.out.below HB2.out).some_ (by omega)
          obtain ⟨p, hp⟩ := getElem?_lt hlj
          obtain ⟨q1, q2⟩ := hc' j p hp
          obtain ⟨w1, w2, w3, w4⟩ := HL.out.2.1 p (mem_of_at hp)
          have HN := Lib.hid (show cnt (l.take (j + 1)) = cnt (l.take j) + p.2 by rw [take_snoc l j p hp, cnt_snoc])
          obtain ⟨t0, t1⟩ := cnt_take HL.out.2.1 j
          obtain ⟨t2, t3⟩ := cnt_take HL.out.2.1 (j + 1)
          have h5 : cnt (l.take j) + p.2 ≤ cnt l := by rw [← HN.out]; exact t3
          obtain ⟨R, hR⟩ : ∃ R, z + S + cnt (l.take j) = R := ⟨_, rfl⟩
          have HR := Lib.hid hR
          have r0 : 0 ≤ R := by omega
          rw [hR] at hle2 ⊢
          obtain ⟨pi, pc⟩ := p
          simp only at q1 q2 w1 w2 w3 w4 HN h5
          have hji : (j : Int) < (l.length : Int) := by omega
          clear hc' hp hR t0 t1 t2 t3
          by_cases hov : 18446744073709551615 < R + pc
          · go_wp2_with fail
            refine (add_two_over _ _ R pc _ (by simp [go_sem]) (by simp [go_sem]) r0 hle2 w3 w4 hov).mono ?_
            rintro e w5 ⟨rfl, rfl⟩
            have hbad : ¬ z + cnt (P ++ Q) ≤ 18446744073709551615 := by have h1 := HR.out; have h2 := HT.out; omega
            have HE := Lib.hid (show (0 : Int) = totV z (P ++ Q) ∧ (5 : Int) = totE z (P ++ Q) by unfold totV totE; rw [if_neg hbad, if_neg hbad]; exact ⟨rfl, rfl⟩)
            have HBB := Lib.hid (HB.out.trans (HB2.out.mono HB.out.size))
            clear hbad
            go_wp2_with fail
            go_ret2
            exact ⟨ret_tot HE.out.1 HE.out.2, (HBB.out.alloc HBB.out.size _).alloc (Nat.le_trans HBB.out.size (by simp)) _⟩
          · obtain ⟨U, hU⟩ : ∃ U, R + pc = U := ⟨_, rfl⟩
            have hU1 : U ≤ 18446744073709551615 := by omega
            have HU := Lib.hid hU
            clear hov hU
            go_wp2_with fail
            refine (add_two _ _ R pc _ (by simp [go_sem]) (by simp [go_sem]) r0 hle2 w3 w4 U HU.out hU1).mono ?_
            rintro e w5 ⟨rfl, rfl⟩
            go_wp2_with fail
            have HE := Lib.hid (show U = z + S + cnt (l.take (j + 1)) by have h1 := HR.out; have h2 := HU.out; rw [HN.out]; omega)
            go_roundw
            case rel => exact ⟨j + 1, by omega, by go_num, ret_val HE.out, by rw [← HE.out]; exact hU1, (HB2.out.alloc HB2.out.size _).alloc (Nat.le_trans HB2.out.size (by simp)) _⟩
            case measure => simp [intOf]; omega
        · obtain rfl : j = l.length := by omega
          have hji : ¬ ((l.length : Int) < (l.length : Int)) := by omega
          rw [List.take_length] at hle2 ⊢
          have HE := Lib.hid (show z + S + cnt l = z + before P Q (k + 1) by rw [HS.out]; omega)
          go_wp2_with fail
          go_roundw
          case rel => exact ⟨k + 1, by omega, by go_num, ret_val HE.out, by rw [← HE.out]; exact hle2, HB.out.trans (HB2.out.mono HB.out.size)⟩
          case measure => simp [intOf]; omega
    · obtain rfl : k = 2 := by omega
      have hgood : z + cnt (P ++ Q) ≤ 18446744073709551615 := by simpa [before, cnt_append] using hle
      have HE := Lib.hid (show z + before P Q 2 = totV z (P ++ Q) ∧ (0 : Int) = totE z (P ++ Q) by unfold totV totE; rw [if_pos hgood, if_pos hgood]; exact ⟨by simp [before, cnt_append], rfl⟩)
      clear hgood
      go_wp2_with fail
      go_ret2
      exact ⟨ret_tot HE.out.1 HE.out.2, HB.out⟩
end Go.Proofs.YtakomfnajeolcaaGreatDoor

/-! The contracts of what is wrong with a histogram. -/
namespace Go.Proofs.YtakomfnajeolcaaGreatDoor
open Go.RowKit Go.Sort
set_option linter.unusedVariables false

/-- what is wrong with a histogram, whatever it counts -/
def kindE (k s z : Int) : Int := if k ≠ 0 ∧ k ≠ 1 then 25 else if rightB s = false then 20 else if z ≠ -524288 ∧ (z ≤ -262144 ∨ 262144 < z) then 31 else 0
theorem kindE_zero {k s z : Int} (h : kindE k s z = 0) : (k = 0 ∨ k = 1) ∧ rightB s = true ∧ (z = -524288 ∨ (-262144 < z ∧ z ≤ 262144)) := by
  unfold kindE at h
  by_cases h1 : k ≠ 0 ∧ k ≠ 1
  · rw [if_pos h1] at h; cases h
  · rw [if_neg h1] at h
    by_cases h2 : rightB s = false
    · rw [if_pos h2] at h; cases h
    · rw [if_neg h2] at h
      by_cases h3 : z ≠ -524288 ∧ (z ≤ -262144 ∨ 262144 < z)
      · rw [if_pos h3] at h; cases h
      · exact ⟨by omega, by simpa using h2, by omega⟩
/-- what is wrong with a bucket behind another one -/
def bktE (s z : Int) (o : Option Int) (p : Int × Int) : Int :=
  if inB s p.1 = false then 4 else if (match o with | none => false | some q => decide (p.1 ≤ q)) = true then 32 else if p.2 = 0 then 21 else if un s (p.1 - 1) < z then 31 else 0
def walkE (s z : Int) : Option Int → List (Int × Int) → Int
  | _, [] => 0
  | o, p :: r => if bktE s z o p ≠ 0 then bktE s z o p else walkE s z (some p.1) r
def sideE (s z : Int) (l : List (Int × Int)) : Int := if 512 < l.length then 9 else walkE s z none l
/-- the index ahead of the j-th -/
def prevO (l : List (Int × Int)) (j : Nat) : Option Int := match j with | 0 => none | j + 1 => (l[j]?).map (·.1)
theorem walk_step {s z : Int} {l : List (Int × Int)} {j : Nat} {p : Int × Int} (h : l[j]? = some p) :
    walkE s z (prevO l j) (l.drop j) = if bktE s z (prevO l j) p ≠ 0 then bktE s z (prevO l j) p else walkE s z (prevO l (j + 1)) (l.drop (j + 1)) := by
  have hj : j < l.length := (List.getElem?_eq_some_iff.1 h).1
  have e : l.drop j = p :: l.drop (j + 1) := by
    rw [List.drop_eq_getElem_cons hj]
    congr 1
    exact (List.getElem?_eq_some_iff.1 h).2
  rw [e]
  show (if _ then _ else walkE s z (some p.1) (l.drop (j + 1))) = _
  have e2 : prevO l (j + 1) = some p.1 := by simp [prevO, h]
  rw [e2]

theorem kinds_any (k s z : Int) (v3 v4 v5 v6 v7 : Value) (w : World) :
    Calls Tryz.prog 49 #[.agg #[.int .i64 k, .int .i64 s, .int .i64 z, v3, v4, v5, v6, v7]] w fun e w' => e = .returned (.int .i64 (kindE k s z)) ∧ Below w.heap.size w w' := by
  by_cases h0 : k = 0
  all_goals by_cases h1 : k = 1
  · omega
  all_goals
    first
    | (have t0 : (k != 0) = false := by simpa using h0)
    | (have t0 : (k != 0) = true := by simpa using h0)
    first
    | (have t1 : (k != 1) = false := by simpa using h1)
    | (have t1 : (k != 1) = true := by simpa using h1)
    have HK := Lib.hid (show kindE k s z = if k ≠ 0 ∧ k ≠ 1 then 25 else if rightB s = false then 20 else if z ≠ -524288 ∧ (z ≤ -262144 ∨ 262144 < z) then 31 else 0 from rfl)
    have H0 := Lib.hid h0
    have H1 := Lib.hid h1
    clear h0 h1
    rcases hR : rightB s with _ | _
    all_goals
      by_cases h2 : z = -524288
      all_goals by_cases h3 : z ≤ -262144
      all_goals by_cases h4 : 262144 < z
      all_goals
        first
        | (exfalso; omega)
        | skip
      all_goals
        first
        | (have t2 : (z != -524288) = false := by simpa using h2)
        | (have t2 : (z != -524288) = true := by simpa using h2)
        first
        | (have t3 : decide (z ≤ -262144) = true := by simpa using h3)
        | (have t3 : decide (z ≤ -262144) = false := by simpa using h3)
        first
        | (have t4 : decide (262144 < z) = true := by simpa using h4)
        | (have t4 : decide (262144 < z) = false := by simpa using h4)
        have HR := Lib.hid hR
        have H2 := Lib.hid h2
        have H3 := Lib.hid h3
        have H4 := Lib.hid h4
        clear h2 h3 h4
        go_enter Tryz.func49, Tryz.ntmps49
        go_wp2_with (go_at_call 83; refine (right_any _ _).mono ?_; rintro e w' ⟨rfl, rfl⟩)
        go_ret
        refine ⟨ret_int ?_, (Below.refl _ _).alloc (Nat.le_refl _) _⟩
        have a0 := H0.out
        have a1 := H1.out
        have a2 := H2.out
        have a3 := H3.out
        have a4 := H4.out
        have aR := HR.out
        rw [HK.out]
        simp [a0, a1, a2, a3, a4, aR]
end Go.Proofs.YtakomfnajeolcaaGreatDoor
