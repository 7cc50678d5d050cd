/- Contracts of the program's and the document's sums and differences: what each returns, and that it leaves memory as it is. -/
import Derived.Test.YtdnihkmdigmnoaaNumA
import Derived.Test.YtdnihkmdigmnoaaMathF
import Derived.Laws.Externs
namespace Go.Proofs.Ytdnihkmdigmnoaa
open Go.RowKit

theorem ret_pair {k l : IntKind} {a b c d : Int} (h : a = b) (g : c = d) : Ending.returned (.tuple #[.int k a, .int l c]) = .returned (.tuple #[.int k b, .int l d]) := by rw [h, g]

/-- the cells of a slice of counts, by a function of the place -/
def RowU (w : World) (b off len : Nat) (f : Nat → Int) : Prop :=
  len ≤ 9223372036854775807 ∧ ∀ i, i < len → w.cell? ⟨b, off + i, none⟩ = some (.int .u64 (f i)) ∧ 0 ≤ f i ∧ f i ≤ 18446744073709551615
/-- the cells of a slice of whole numbers -/
def RowI (w : World) (b off len : Nat) (f : Nat → Int) : Prop :=
  len ≤ 9223372036854775807 ∧ ∀ i, i < len → w.cell? ⟨b, off + i, none⟩ = some (.int .i64 (f i)) ∧ -9223372036854775808 ≤ f i ∧ f i ≤ 9223372036854775807

theorem add_none (a : Option Addr) (cap : Nat) (f : Nat → Int) (w : World) :
    Calls Try.prog 10 #[.slice a 0 cap] w fun e w' => e = .returned (.tuple #[.int .u64 (addV f 0), .int .i64 (addE f 0)]) ∧ w = w' := by
  obtain ⟨e1, e2⟩ := add_fits (f := f) (n := 0) (by show (0 : Int) ≤ maxU; decide)
  have E1 := Lib.hid e1
  have E2 := Lib.hid e2
  clear e1 e2
  go_enter Try.func10, Try.ntmps10
  go_wp2
  refine wp_loop_rounds 1 ?_
  rw [rounds_succ]
  go_wp2
  go_ret2
  exact ⟨ret_pair E1.out.symm E2.out.symm, rfl⟩

theorem add_row (b off len cap : Nat) (f : Nat → Int) (w : World) (hr : RowU w b off len f) :
    Calls Try.prog 10 #[.slice (some ⟨b, off, none⟩) len cap] w fun e w' => e = .returned (.tuple #[.int .u64 (addV f len), .int .i64 (addE f len)]) ∧ w = w' := by
  obtain ⟨hm, hc⟩ := hr
  have hn : ∀ i, i < len → 0 ≤ f i := fun i hi => (hc i hi).2.1
  have HN := Lib.hid hn
  have HC := Lib.hid hc
  clear hn hc
  go_enter Try.func10, Try.ntmps10
  go_wp2
  go_loop [9, 4] (fun i s => ∃ k : Nat, k ≤ len ∧ i = .int .i64 k ∧ s = .int .u64 (sumTo f k) ∧ 0 ≤ sumTo f k ∧ sumTo f k ≤ 18446744073709551615) (fun i _ => len - (intOf i).toNat)
  case atStart => exact ⟨0, Nat.zero_le _, rfl, rfl, Int.le_refl _, by show (0 : Int) ≤ _; decide⟩
  case round =>
    obtain ⟨k, hk, rfl, rfl, s0, s1⟩ := hrel
    by_cases hlt : k < len
    · obtain ⟨c1, c2, c3⟩ := HC.out k hlt
      by_cases ho : 18446744073709551615 - sumTo f k < f k
      · have hov := add_over HN.out hlt (show maxU < sumTo f k + f k by unfold maxU; omega)
        have E1 := Lib.hid hov.1
        have E2 := Lib.hid hov.2
        clear hov
        go_wp2
        go_ret2
        exact ⟨ret_pair E1.out.symm E2.out.symm, rfl⟩
      · have hs : sumTo f (k + 1) = sumTo f k + f k := rfl
        have HS := Lib.hid hs
        clear hs
        go_wp2
        go_round
        case rel => exact ⟨k + 1, by omega, by go_num, rfl, by rw [HS.out]; omega, by rw [HS.out]; omega⟩
        case measure => simp [intOf]; omega
    · obtain rfl : k = len := by omega
      obtain ⟨e1, e2⟩ := add_fits (f := f) (n := k) s1
      have E1 := Lib.hid e1
      have E2 := Lib.hid e2
      clear e1 e2
      go_wp2
      go_ret2
      exact ⟨ret_pair E1.out.symm E2.out.symm, rfl⟩

theorem refadd_none (a : Option Addr) (cap : Nat) (f : Nat → Int) (w : World) :
    Calls Try.prog 11 #[.slice a 0 cap] w fun e w' => e = .returned (.tuple #[.int .u64 (addV f 0), .int .i64 (addE f 0)]) ∧ w = w' := by
  obtain ⟨e1, e2⟩ := add_fits (f := f) (n := 0) (by show (0 : Int) ≤ maxU; decide)
  have E1 := Lib.hid e1
  have E2 := Lib.hid e2
  clear e1 e2
  go_enter Try.func11, Try.ntmps11
  go_wp2
  refine wp_loop_rounds 1 ?_
  rw [rounds_succ]
  go_wp2
  go_ret2
  exact ⟨ret_pair E1.out.symm E2.out.symm, rfl⟩

theorem refadd_row (b off len cap : Nat) (f : Nat → Int) (w : World) (hr : RowU w b off len f) :
    Calls Try.prog 11 #[.slice (some ⟨b, off, none⟩) len cap] w fun e w' => e = .returned (.tuple #[.int .u64 (addV f len), .int .i64 (addE f len)]) ∧ w = w' := by
  obtain ⟨hm, hc⟩ := hr
  have hn : ∀ i, i < len → 0 ≤ f i := fun i hi => (hc i hi).2.1
  have HN := Lib.hid hn
  have HC := Lib.hid hc
  clear hn hc
  go_enter Try.func11, Try.ntmps11
  go_wp2
  go_loop [5, 4] (fun i s => ∃ k : Nat, k ≤ len ∧ i = .int .i64 k ∧ s = .int .u64 (sumTo f k) ∧ 0 ≤ sumTo f k ∧ sumTo f k ≤ 18446744073709551615) (fun i _ => len - (intOf i).toNat)
  case atStart => exact ⟨0, Nat.zero_le _, rfl, rfl, Int.le_refl _, by show (0 : Int) ≤ _; decide⟩
  case round =>
    obtain ⟨k, hk, rfl, rfl, s0, s1⟩ := hrel
    by_cases hlt : k < len
    · obtain ⟨c1, c2, c3⟩ := HC.out k hlt
      by_cases ho : 18446744073709551615 - sumTo f k < f k
      · have hov := add_over HN.out hlt (show maxU < sumTo f k + f k by unfold maxU; omega)
        have E1 := Lib.hid hov.1
        have E2 := Lib.hid hov.2
        clear hov
        go_wp2
        go_ret2
        exact ⟨ret_pair E1.out.symm E2.out.symm, rfl⟩
      · have hs : sumTo f (k + 1) = sumTo f k + f k := rfl
        have HS := Lib.hid hs
        clear hs
        go_wp2
        go_round
        case rel => exact ⟨k + 1, by omega, by go_num, rfl, by rw [HS.out]; omega, by rw [HS.out]; omega⟩
        case measure => simp [intOf]; omega
    · obtain rfl : k = len := by omega
      obtain ⟨e1, e2⟩ := add_fits (f := f) (n := k) s1
      have E1 := Lib.hid e1
      have E2 := Lib.hid e2
      clear e1 e2
      go_wp2
      go_ret2
      exact ⟨ret_pair E1.out.symm E2.out.symm, rfl⟩


/-- the library's sum with carry, at a carry of nought: the model's own entry -/
theorem add64_0 (x y : Int) (w : World) (hx : 0 ≤ x) (hy : 0 ≤ y) : (callFunc 28 #[.int .u64 x, .int .u64 y, .int .u64 0]).run Try.prog w =
    .ok (.value (.tuple #[.int .u64 ((x + y) % 18446744073709551616), .int .u64 ((x + y) / 18446744073709551616)])) w := by
  rw [run_callFunc_extern Try.func28 (by kernel_rfl) (by kernel_rfl) (by kernel_rfl) (e := add64Entry) (by kernel_rfl), run_add64 x y 0 hx hy (Int.le_refl 0) (by decide)]
  simp only [Result.andThen, Int.add_zero]

theorem addint_none (a : Option Addr) (cap : Nat) (f : Nat → Int) (w : World) :
    Calls Try.prog 12 #[.slice a 0 cap] w fun e w' => e = .returned (.tuple #[.int .i64 (intV (sumTo f 0)), .int .i64 (intE (sumTo f 0))]) ∧ w = w' := by
  obtain ⟨e1, e2⟩ := int_fits (s := sumTo f 0) (by show inI64 0; decide)
  have E1 := Lib.hid e1
  have E2 := Lib.hid e2
  clear e1 e2
  go_enter Try.func12, Try.ntmps12
  go_wp2
  refine wp_loop_rounds 1 ?_
  rw [rounds_succ]
  go_wp2
  go_ret2
  exact ⟨ret_pair E1.out.symm E2.out.symm, rfl⟩

theorem addint_row (b off len cap : Nat) (f : Nat → Int) (w : World) (hr : RowI w b off len f) :
    Calls Try.prog 12 #[.slice (some ⟨b, off, none⟩) len cap] w fun e w' => e = .returned (.tuple #[.int .i64 (intV (sumTo f len)), .int .i64 (intE (sumTo f len))]) ∧ w = w' := by
  obtain ⟨hm, hc⟩ := hr
  have HC := Lib.hid hc
  clear hc
  go_enter Try.func12, Try.ntmps12
  go_wp2
  go_loop [13, 4, 5] (fun i h l => ∃ (k : Nat) (p q : Int), k ≤ len ∧ i = .int .i64 k ∧ h = .int .i64 p ∧ l = .int .u64 q ∧ p * 18446744073709551616 + q = sumTo f k ∧ 0 ≤ q ∧ q ≤ 18446744073709551615 ∧ -(k : Int) ≤ p ∧ p ≤ k) (fun i _ _ => len - (intOf i).toNat)
  case atStart => exact ⟨0, 0, 0, Nat.zero_le _, rfl, rfl, rfl, rfl, by decide, by decide, by decide, by decide⟩
  case round =>
    obtain ⟨k, p, q, hk, rfl, rfl, rfl, hs, q0, q1, p0, p1⟩ := hrel
    by_cases hlt : k < len
    · obtain ⟨c1, c2, c3⟩ := HC.out k hlt
      have hs' : sumTo f (k + 1) = sumTo f k + f k := rfl
      have HS := Lib.hid hs
      have HS' := Lib.hid hs'
      clear hs hs'
      obtain ⟨u, hu⟩ : ∃ u, IntKind.u64.wrap (f k) = u := ⟨_, rfl⟩
      have hu' : u = f k % 18446744073709551616 := by rw [← hu, IntKind.wrap_u64]
      have u0 : 0 ≤ u := by omega
      have u1 : u < 18446744073709551616 := by omega
      have HU := Lib.hid hu'
      clear hu'
      have v0 : 0 ≤ (q + u) / 18446744073709551616 := by omega
      have v1 : (q + u) / 18446744073709551616 ≤ 1 := by omega
      go_wp2_with (simp only [add64_0 _ _ _ q0 u0])
      go_round
      case rel =>
        have h1 := HS.out
        have h2 := HS'.out
        have h3 := HU.out
        exact ⟨k + 1, _, _, by omega, by go_num, rfl, rfl, by rw [h2, ← h1]; omega, by omega, by omega, by omega, by omega⟩
      case measure => simp [intOf]; omega
    · obtain rfl : k = len := by omega
      have HS := Lib.hid hs
      clear hs
      by_cases hq : q < 9223372036854775808
      · by_cases hp : p = 0
        · obtain ⟨e1, e2⟩ := int_fits (s := sumTo f k) (by have := HS.out; unfold inI64; omega)
          have E1 : Hid (intV (sumTo f k) = q) := by have := HS.out; unfold Hid; omega
          have E2 := Lib.hid e2
          have p2 : 0 ≤ p := by omega
          have p3 : p ≤ 0 := by omega
          clear e1 e2 hp
          go_wp2
          go_ret2
          exact ⟨ret_pair E1.out.symm E2.out.symm, rfl⟩
        · obtain ⟨e1, e2⟩ := int_over (s := sumTo f k) (by have := HS.out; unfold inI64; omega)
          have E1 := Lib.hid e1
          have E2 := Lib.hid e2
          have ht : (p != q / 9223372036854775808) = true := by simp; omega
          clear e1 e2 hp
          go_wp2
          go_ret2
          exact ⟨ret_pair E1.out.symm E2.out.symm, rfl⟩
      · obtain ⟨z, hz⟩ : ∃ z, wrap64 q = z := ⟨_, rfl⟩
        have hz' : z = q - 18446744073709551616 := by rw [← hz]; unfold wrap64; omega
        have z0 : z ≤ q - 18446744073709551616 := by omega
        have z1 : q - 18446744073709551616 ≤ z := by omega
        clear hz'
        by_cases hp : p = -1
        · obtain ⟨e1, e2⟩ := int_fits (s := sumTo f k) (by have := HS.out; unfold inI64; omega)
          have E1 : Hid (intV (sumTo f k) = z) := by have := HS.out; unfold Hid; omega
          have E2 := Lib.hid e2
          have ht : (p != z / 9223372036854775808) = false := by simp; omega
          clear e1 e2 hp
          go_wp2
          go_ret2
          exact ⟨ret_pair E1.out.symm E2.out.symm, rfl⟩
        · obtain ⟨e1, e2⟩ := int_over (s := sumTo f k) (by have := HS.out; unfold inI64; omega)
          have E1 := Lib.hid e1
          have E2 := Lib.hid e2
          have ht : (p != z / 9223372036854775808) = true := by simp; omega
          clear e1 e2 hp
          go_wp2
          go_ret2
          exact ⟨ret_pair E1.out.symm E2.out.symm, rfl⟩
end Go.Proofs.Ytdnihkmdigmnoaa
