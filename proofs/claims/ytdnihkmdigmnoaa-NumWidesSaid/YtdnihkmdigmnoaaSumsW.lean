/- The law NumSums' walk: for all slices of uint64 and int64, all uint64 a, b and int64 c, d it returns true; of what was in memory nothing turns. -/
import Derived.Test.YtdnihkmdigmnoaaAddB
import Derived.Test.YtdnihkmdigmnoaaNumB
namespace Go.Proofs.Ytdnihkmdigmnoaa
open Go.RowKit

/-- what is told of a slice of integers that came in (the skeleton's own words) -/
def RowIn (k : IntKind) (w : World) (a : Option Addr) (len cap : Nat) (zs : List Int) : Prop :=
  (a = none ∧ len = 0 ∧ cap = 0 ∧ zs = []) ∨
  ∃ x, a = some x ∧ len ≤ cap ∧ cap ≤ maxLen ∧ zs.length = cap ∧ (∀ i, i < zs.length → w.cell? (x.add i) = some (.int k (zs.getD i 0))) ∧ ∀ n ∈ zs, (Lit.int k n).wf = true

theorem getD_mem {zs : List Int} {i : Nat} (h : i < zs.length) : zs.getD i 0 ∈ zs := by
  have e : zs.getD i 0 = zs[i] := by simp [List.getD, h]
  rw [e]; exact List.getElem_mem h

theorem addr_add (b off i : Nat) : (⟨b, off, none⟩ : Addr).add i = ⟨b, off + i, none⟩ := by
  unfold Addr.add
  split
  · subst_vars; rfl
  · rfl

/-- a slice that came in is empty, or its cells are read by place -/
theorem rowIn_cases {k : IntKind} {w : World} {a : Option Addr} {len cap : Nat} {zs : List Int} (h : RowIn k w a len cap zs) :
    len = 0 ∨ (len ≤ 9223372036854775807 ∧ ∃ b off, a = some ⟨b, off, none⟩ ∧ ∀ i, i < len → w.cell? ⟨b, off + i, none⟩ = some (.int k (zs.getD i 0)) ∧ (Lit.int k (zs.getD i 0)).wf = true) := by
  rcases h with ⟨_, h, _, _⟩ | ⟨x, rfl, hl, hm, hz, hc, hw⟩
  · exact .inl h
  · by_cases h0 : len = 0
    · exact .inl h0
    · obtain ⟨b, off, spot⟩ := x
      have hc0 := hc 0 (by omega)
      have hs : spot = none := by simpa [Addr.add] using World.cell?_spot hc0
      subst hs
      refine .inr ⟨by unfold maxLen at hm; omega, b, off, rfl, fun i hi => ⟨?_, hw _ (getD_mem (by omega))⟩⟩
      have h := hc i (by omega)
      rw [addr_add] at h
      exact h

theorem add_slice {a : Option Addr} {len cap : Nat} {zs : List Int} {w : World} (h : RowIn .u64 w a len cap zs) :
    Calls Try.prog 10 #[.slice a len cap] w fun e w' => e = .returned (.tuple #[.int .u64 (addV (fun i => zs.getD i 0) len), .int .i64 (addE (fun i => zs.getD i 0) len)]) ∧ w = w' := by
  rcases rowIn_cases h with rfl | ⟨hm, b, off, rfl, hc⟩
  · exact add_none a cap _ w
  · exact add_row b off len cap _ w ⟨hm, fun i hi => ⟨(hc i hi).1, (bounds_u64 (hc i hi).2).1, (bounds_u64 (hc i hi).2).2⟩⟩
theorem refadd_slice {a : Option Addr} {len cap : Nat} {zs : List Int} {w : World} (h : RowIn .u64 w a len cap zs) :
    Calls Try.prog 11 #[.slice a len cap] w fun e w' => e = .returned (.tuple #[.int .u64 (addV (fun i => zs.getD i 0) len), .int .i64 (addE (fun i => zs.getD i 0) len)]) ∧ w = w' := by
  rcases rowIn_cases h with rfl | ⟨hm, b, off, rfl, hc⟩
  · exact refadd_none a cap _ w
  · exact refadd_row b off len cap _ w ⟨hm, fun i hi => ⟨(hc i hi).1, (bounds_u64 (hc i hi).2).1, (bounds_u64 (hc i hi).2).2⟩⟩
theorem addint_slice {a : Option Addr} {len cap : Nat} {zs : List Int} {w : World} (h : RowIn .i64 w a len cap zs) :
    Calls Try.prog 12 #[.slice a len cap] w fun e w' => e = .returned (.tuple #[.int .i64 (intV (sumTo (fun i => zs.getD i 0) len)), .int .i64 (intE (sumTo (fun i => zs.getD i 0) len))]) ∧ w = w' := by
  rcases rowIn_cases h with rfl | ⟨hm, b, off, rfl, hc⟩
  · exact addint_none a cap _ w
  · exact addint_row b off len cap _ w ⟨hm, fun i hi => ⟨(hc i hi).1, (bounds_i64 (hc i hi).2).1, (bounds_i64 (hc i hi).2).2⟩⟩
theorem refaddint_slice {a : Option Addr} {len cap : Nat} {zs : List Int} {w : World} (h : RowIn .i64 w a len cap zs) (hl : len ≤ 1000) :
    Calls Try.prog 13 #[.slice a len cap] w fun e w' => e = .returned (.tuple #[.int .i64 (intV (sumTo (fun i => zs.getD i 0) len)), .int .i64 (intE (sumTo (fun i => zs.getD i 0) len))]) ∧ w = w' := by
  rcases rowIn_cases h with rfl | ⟨hm, b, off, rfl, hc⟩
  · exact refaddint_none a cap _ w
  · exact refaddint_row b off len cap _ w ⟨hm, fun i hi => ⟨(hc i hi).1, (bounds_i64 (hc i hi).2).1, (bounds_i64 (hc i hi).2).2⟩⟩ hl

/-- both sums of a slice that came in are one and the same pair -/
theorem sums_u {a : Option Addr} {len cap : Nat} {zs : List Int} {w : World} (h : RowIn .u64 w a len cap zs) :
    ∃ v x : Int, Calls Try.prog 10 #[.slice a len cap] w (fun e w' => e = .returned (.tuple #[.int .u64 v, .int .i64 x]) ∧ w = w') ∧
      Calls Try.prog 11 #[.slice a len cap] w (fun e w' => e = .returned (.tuple #[.int .u64 v, .int .i64 x]) ∧ w = w') :=
  ⟨_, _, add_slice h, refadd_slice h⟩
theorem sums_i {a : Option Addr} {len cap : Nat} {zs : List Int} {w : World} (h : RowIn .i64 w a len cap zs) (hl : len ≤ 1000) :
    ∃ v x : Int, Calls Try.prog 12 #[.slice a len cap] w (fun e w' => e = .returned (.tuple #[.int .i64 v, .int .i64 x]) ∧ w = w') ∧
      Calls Try.prog 13 #[.slice a len cap] w (fun e w' => e = .returned (.tuple #[.int .i64 v, .int .i64 x]) ∧ w = w') :=
  ⟨_, _, addint_slice h, refaddint_slice h hl⟩

theorem sub_cases (a b : Int) : (a < b ∧ subV a b = 0 ∧ subE a b = 5) ∨ (b ≤ a ∧ subV a b = a - b ∧ subE a b = 0) := by
  unfold subV subE
  by_cases h : a < b
  · exact .inl ⟨h, if_pos h, if_pos h⟩
  · exact .inr ⟨by omega, if_neg h, if_neg h⟩

set_option maxHeartbeats 400000 in
theorem numSums_walk (a0 : Option Addr) (len0 cap0 : Nat) (z0 : List Int) (a1 : Option Addr) (len1 cap1 : Nat) (z1 : List Int) (a : Int) (b : Int) (c : Int) (d : Int) (w : World) (w0 : RowIn .u64 w a0 len0 cap0 z0) (w1 : RowIn .i64 w a1 len1 cap1 z1) (w2 : (Lit.int .u64 a).wf = true) (w3 : (Lit.int .u64 b).wf = true) (w4 : (Lit.int .i64 c).wf = true) (w5 : (Lit.int .i64 d).wf = true) :
    Calls Try.prog 3 #[.slice a0 len0 cap0, .slice a1 len1 cap1, .int .u64 a, .int .u64 b, .int .i64 c, .int .i64 d] w fun e w' => e = .returned (.bool true) ∧ Below w.heap.size w w' := by
  obtain ⟨a0', a1'⟩ := bounds_u64 w2
  obtain ⟨b0', b1'⟩ := bounds_u64 w3
  obtain ⟨c0', c1'⟩ := bounds_i64 w4
  obtain ⟨d0', d1'⟩ := bounds_i64 w5
  have W0 := Lib.hid w0
  have W1 := Lib.hid w1
  clear w0 w1 w2 w3 w4 w5
  by_cases h0 : 1000 < len0
  · have g0 : (1000 : Int) < (len0 : Int) := by omega
    go_enter Try.func3, Try.ntmps3
    go_wp2_with (go_at_call 9; refine (awake01 _).mono ?_; rintro e w' ⟨rfl, rfl⟩)
    go_ret
    exact ⟨rfl, Below.refl _ _⟩
  by_cases h1 : 1000 < len1
  · have g0 : (len0 : Int) ≤ 1000 := by omega
    have g1 : (1000 : Int) < (len1 : Int) := by omega
    go_enter Try.func3, Try.ntmps3
    go_wp2_with (go_at_call 9; refine (awake01 _).mono ?_; rintro e w' ⟨rfl, rfl⟩)
    go_ret
    exact ⟨rfl, Below.refl _ _⟩
  have g0 : (len0 : Int) ≤ 1000 := by omega
  have g1 : (len1 : Int) ≤ 1000 := by omega
  have hs := sub_cases a b
  obtain ⟨v0, x0, hU⟩ := sums_u W0.out
  obtain ⟨v1, x1, hI⟩ := sums_i W1.out (by omega)
  have HU := Lib.hid hU
  have HI := Lib.hid hI
  clear hU hI
  rcases hs with ⟨s0, EV, EE⟩ | ⟨s0, EV, EE⟩
  all_goals
    by_cases hd : d ≤ -9223372036854775808
    · by_cases hc : c < 0
      · have E : intE (c - d) = 0 := (int_fits (by unfold inI64; omega)).2
        go_enter Try.func3, Try.ntmps3
        go_wp2_with (first | (go_at_call 10; (with_reducible refine HU.out.1.mono ?_); rintro e w' ⟨rfl, rfl⟩) | (go_at_call 11; (with_reducible refine HU.out.2.mono ?_); rintro e w' ⟨rfl, rfl⟩) | (go_at_call 12; (with_reducible refine HI.out.1.mono ?_); rintro e w' ⟨rfl, rfl⟩) | (go_at_call 13; (with_reducible refine HI.out.2.mono ?_); rintro e w' ⟨rfl, rfl⟩) | (go_at_call 14; refine (sub_any _ _ _ (by omega) (by omega)).mono ?_; rintro e w' ⟨rfl, rfl⟩) | (go_at_call 15; refine (subint_any _ _ _ (by omega) (by omega) (by omega) (by omega)).mono ?_; rintro e w' ⟨rfl, rfl⟩) | (go_at_call 9; refine (awake01 _).mono ?_; rintro e w' ⟨rfl, rfl⟩))
        go_ret
        exact ⟨rfl, Below.refl _ _⟩
      · have hc' : decide (c < 0) = false := by simpa using hc
        have E : intE (c - d) = 5 := (int_over (by unfold inI64; omega)).2
        go_enter Try.func3, Try.ntmps3
        go_wp2_with (first | (go_at_call 10; (with_reducible refine HU.out.1.mono ?_); rintro e w' ⟨rfl, rfl⟩) | (go_at_call 11; (with_reducible refine HU.out.2.mono ?_); rintro e w' ⟨rfl, rfl⟩) | (go_at_call 12; (with_reducible refine HI.out.1.mono ?_); rintro e w' ⟨rfl, rfl⟩) | (go_at_call 13; (with_reducible refine HI.out.2.mono ?_); rintro e w' ⟨rfl, rfl⟩) | (go_at_call 14; refine (sub_any _ _ _ (by omega) (by omega)).mono ?_; rintro e w' ⟨rfl, rfl⟩) | (go_at_call 15; refine (subint_any _ _ _ (by omega) (by omega) (by omega) (by omega)).mono ?_; rintro e w' ⟨rfl, rfl⟩) | (go_at_call 9; refine (awake01 _).mono ?_; rintro e w' ⟨rfl, rfl⟩))
        go_ret
        exact ⟨rfl, Below.refl _ _⟩
    · have hd' : -9223372036854775807 ≤ d := by omega
      have ev : intV (sumTo (two c (-d)) 2) = intV (c - d) := by rw [two_sum]; congr 1
      have ee : intE (sumTo (two c (-d)) 2) = intE (c - d) := by rw [two_sum]; congr 1
      clear hd
      go_enter Try.func3, Try.ntmps3
      go_wp2_with (first | (go_at_call 10; (with_reducible refine HU.out.1.mono ?_); rintro e w' ⟨rfl, rfl⟩) | (go_at_call 11; (with_reducible refine HU.out.2.mono ?_); rintro e w' ⟨rfl, rfl⟩) | (go_at_call 12; (with_reducible refine HI.out.1.mono ?_); rintro e w' ⟨rfl, rfl⟩) | (go_at_call 13; (with_reducible refine HI.out.2.mono ?_); rintro e w' ⟨rfl, rfl⟩) | (go_at_call 14; refine (sub_any _ _ _ (by omega) (by omega)).mono ?_; rintro e w' ⟨rfl, rfl⟩) | (go_at_call 15; refine (subint_any _ _ _ (by omega) (by omega) (by omega) (by omega)).mono ?_; rintro e w' ⟨rfl, rfl⟩) | (go_at_call 9; refine (awake01 _).mono ?_; rintro e w' ⟨rfl, rfl⟩))
      refine (refaddint_row _ 0 2 2 (two c (-d)) _ ⟨by decide, fun i hi => ?_⟩ (by decide)).mono ?_
      · obtain rfl | rfl : i = 0 ∨ i = 1 := by omega
        · exact ⟨by simp [two, go_sem], by show -9223372036854775808 ≤ c; omega, by show c ≤ _; omega⟩
        · exact ⟨by simp [two, go_sem], by show -9223372036854775808 ≤ -d; omega, by show -d ≤ _; omega⟩
      · rintro e w' ⟨rfl, rfl⟩
        go_wp2_with (first | (go_at_call 10; (with_reducible refine HU.out.1.mono ?_); rintro e w' ⟨rfl, rfl⟩) | (go_at_call 11; (with_reducible refine HU.out.2.mono ?_); rintro e w' ⟨rfl, rfl⟩) | (go_at_call 12; (with_reducible refine HI.out.1.mono ?_); rintro e w' ⟨rfl, rfl⟩) | (go_at_call 13; (with_reducible refine HI.out.2.mono ?_); rintro e w' ⟨rfl, rfl⟩) | (go_at_call 14; refine (sub_any _ _ _ (by omega) (by omega)).mono ?_; rintro e w' ⟨rfl, rfl⟩) | (go_at_call 15; refine (subint_any _ _ _ (by omega) (by omega) (by omega) (by omega)).mono ?_; rintro e w' ⟨rfl, rfl⟩) | (go_at_call 9; refine (awake01 _).mono ?_; rintro e w' ⟨rfl, rfl⟩))
        go_ret
        exact ⟨rfl, (Below.refl _ _).alloc (Nat.le_refl _) _⟩
end Go.Proofs.Ytdnihkmdigmnoaa
