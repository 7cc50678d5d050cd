/- Arguments that are histograms, and slices of buckets, read as what the contracts ask. -/
import Derived.Test.YtjnienlidmmhdaaGreatDoorHsB
import Derived.WalkKit
import Derived.ProofKit
import Derived.OpenShut
import Derived.Deep.SlicePairs
import Derived.Deep.Fields
import Derived.WideShapes
namespace Go.Proofs.YtjnienlidmmhdaaGreatDoor
open Go.ChangeShapes Go.WideShapes Go.RowKit Go.Deep
set_option linter.unusedVariables false
set_option maxRecDepth 100000

theorem spot_none {w : World} {a : Addr} {v : Value} (h : w.cell? (a.add (0 * 2)) = some v) : a = ⟨a.block, a.off, none⟩ := by
  simp [Addr.add] at h
  unfold World.cell? at h
  obtain ⟨b, o, s⟩ := a
  cases s with
  | none => rfl
  | some s =>
    simp only [Option.isSome_some, if_true] at h
    split at h <;> simp at h
theorem addr_at (b o k : Nat) : (⟨b, o, none⟩ : Addr).add k = ⟨b, o + k, none⟩ := by
  unfold Addr.add
  split
  · subst_vars; rfl
  · rfl
theorem list_of {α : Type} {R : Nat → α → Prop} : ∀ (n : Nat), (∀ i, i < n → ∃ p, R i p) → ∃ l : List α, l.length = n ∧ ∀ j p, l[j]? = some p → R j p := by
  intro n
  induction n with
  | zero => exact fun _ => ⟨[], rfl, by simp⟩
  | succ k ih =>
    intro hi
    obtain ⟨l, hl, hp⟩ := ih (fun i h => hi i (by omega))
    obtain ⟨q, hq⟩ := hi k (by omega)
    refine ⟨l ++ [q], by simp [hl], fun j p hj => ?_⟩
    by_cases hjk : j < l.length
    · rw [List.getElem?_append_left hjk] at hj
      exact hp j p hj
    · rw [List.getElem?_append_right (by omega)] at hj
      obtain ⟨h1, h2⟩ := List.getElem?_eq_some_iff.1 hj
      simp at h1 h2
      obtain rfl : j = k := by omega
      rw [← h2]
      exact hq
section
variable {H : Type} {enc : TypeId × Value → H} {w : World} {spare : Nat → Bool} {held : Bool}
/-- a slice of buckets, opened -/
theorem open_bk {fuel : Nat} {cs : List Value} {x : DataW H × List MemPlace} (h : DataW.trod enc Tryz.prog w 0 spare held fuel 37 cs = some x) : ∃ (A : Option Addr) (l : List (Int × Int)) (c : Nat), cs = [.slice A l.length c] ∧ Bk w A l := by
  rcases open_slice_pairs Tryz.underlying37 Tryz.underlying123 (by kernel_rfl) rfl rfl (by kernel_rfl) (by kernel_rfl) h with ⟨rfl, _⟩ | ⟨a, len, cap, m, n, V0, V1, D0, D1, P0, P1, rfl, _, hlc, hcm, hm, _, hc⟩
  · exact ⟨none, [], 0, rfl, by simp, by simp, .inl rfl⟩
  · have hlm : len ≤ m := by rw [hm]; split <;> omega
    have hi : ∀ i, i < len → ∃ p : Int × Int, V0 i = .int .i64 p.1 ∧ V1 i = .int .u64 p.2 ∧ Wb p := fun i hi => by
      obtain ⟨_, _, t0, t1⟩ := hc i (by omega)
      obtain ⟨x0, e0, _, w0⟩ := DataW.trod_int Tryz.underlying3 t0
      obtain ⟨x1, e1, _, w1⟩ := DataW.trod_int Tryz.underlying36 t1
      simp only [List.cons.injEq, and_true] at e0 e1
      have b0 := bounds_i64 w0
      have b1 := bounds_u64 w1
      exact ⟨(x0, x1), e0, e1, b0.1, b0.2, b1.1, b1.2⟩
    have hw := list_of len hi
    obtain ⟨l, rfl, hp⟩ := hw
    refine ⟨some a, l, cap, rfl, by unfold maxLen at hcm; omega, fun p hpm => ?_, ?_⟩
    · obtain ⟨j, hj, e⟩ := List.getElem_of_mem hpm
      exact (hp j p (by rw [List.getElem?_eq_getElem hj, e])).2.2
    · by_cases h0 : l.length = 0
      · exact .inl h0
      · have ha := spot_none (hc 0 (by omega)).1
        obtain ⟨b, o, sp⟩ := a
        simp only [Addr.mk.injEq, true_and] at ha
        subst ha
        refine .inr ⟨b, o, rfl, fun j p hj => ?_⟩
        have hjl := (List.getElem?_eq_some_iff.1 hj).1
        obtain ⟨e0, e1, _⟩ := hp j p hj
        obtain ⟨c0, c1, _, _⟩ := hc j (by omega)
        rw [e0, addr_at] at c0
        rw [e1, addr_at] at c1
        exact ⟨c0, by simpa [Nat.add_assoc] using c1⟩
/-- an argument that is a slice of buckets -/
theorem open_bk1 {r : Reach} {b0 : Nat} {v : Value} {d : DataW H} {p : List MemPlace} (hv : Value.okWide Tryz.prog w r b0 37 v) (h : DataW.Trod enc Tryz.prog w 0 spare held 37 v d p) : ∃ (A : Option Addr) (l : List (Int × Int)) (c : Nat), v = .slice A l.length c ∧ Bk w A l := by
  obtain ⟨fuel, hf⟩ := h
  obtain ⟨a, n, c, rfl⟩ := okWide_slice Tryz.underlying37 hv
  obtain ⟨A, l, c', e, hb⟩ := open_bk hf
  simp [Value.cells] at e
  obtain ⟨rfl, rfl, rfl⟩ := e
  exact ⟨_, l, _, rfl, hb⟩
theorem list8 {α : Type} : ∀ {l : List α}, l.length = 8 → ∃ a b c d e f g h, l = [a, b, c, d, e, f, g, h]
  | [a, b, c, d, e, f, g, h], _ => ⟨a, b, c, d, e, f, g, h, rfl⟩
/-- an argument that is a histogram -/
theorem open_hist {r : Reach} {b0 : Nat} {v : Value} {dd : DataW H} {pp : List MemPlace} (hv : Value.okWide Tryz.prog w r b0 39 v) (h : DataW.Trod enc Tryz.prog w 0 spare held 39 v dd pp) :
    ∃ (k s z zc ct sm : Int) (A B : Option Addr) (P Q : List (Int × Int)) (c d : Nat), v = .agg #[.int .i64 k, .int .i64 s, .int .i64 z, .int .u64 zc, .int .u64 ct, .int .i64 sm, .slice A P.length c, .slice B Q.length d] ∧ Bk w A P ∧ Bk w B Q ∧
      (-9223372036854775808 ≤ s ∧ s ≤ 9223372036854775807) ∧ 0 ≤ zc ∧ zc ≤ 18446744073709551615 ∧ 0 ≤ ct ∧ ct ≤ 18446744073709551615 ∧
      (-9223372036854775808 ≤ k ∧ k ≤ 9223372036854775807) ∧ (-9223372036854775808 ≤ z ∧ z ≤ 9223372036854775807) ∧ (-9223372036854775808 ≤ sm ∧ sm ≤ 9223372036854775807) := by
  obtain ⟨cs, rfl, hsz⟩ := okWide_struct Tryz.underlying39 hv
  obtain ⟨fuel, hf⟩ := h
  have h8 : cs.toList.length = 8 := by
    rw [show Tryz.prog.cellsOf 39 = 8 from by kernel_rfl] at hsz
    simpa using hsz
  obtain ⟨v0, v1, v2, v3, v4, v5, v6, v7, hcs⟩ := list8 h8
  obtain rfl : cs = #[v0, v1, v2, v3, v4, v5, v6, v7] := by cases cs; simp_all
  obtain ⟨xs, n, _, _, _, hlen, hfs⟩ := DataW.trod_struct Tryz.underlying39 hf
  obtain ⟨y0, y1, y2, y3, y4, y5, y6, y7, rfl⟩ := list8 (by simpa using hlen)
  have g0 := hfs 0 _ rfl
  have g1 := hfs 1 _ rfl
  have g2 := hfs 2 _ rfl
  have g3 := hfs 3 _ rfl
  have g4 := hfs 4 _ rfl
  have g5 := hfs 5 _ rfl
  have g6 := hfs 6 _ rfl
  have g7 := hfs 7 _ rfl
  have cj : Tryz.prog.cellsOf 2 = 1 := by kernel_rfl
  have ci : Tryz.prog.cellsOf 3 = 1 := by kernel_rfl
  have cu : Tryz.prog.cellsOf 36 = 1 := by kernel_rfl
  have cb : Tryz.prog.cellsOf 37 = 1 := by kernel_rfl
  simp [Value.cells, ci, cj, cu, cb] at g0 g1 g2 g3 g4 g5 g6 g7
  obtain ⟨k, e0, _, w0⟩ := DataW.trod_int Tryz.underlying3 g0
  obtain ⟨s, e1, _, w1⟩ := DataW.trod_int Tryz.underlying3 g1
  obtain ⟨z, e2, _, w2⟩ := DataW.trod_int Tryz.underlying3 g2
  obtain ⟨zc, e3, _, w3⟩ := DataW.trod_int Tryz.underlying36 g3
  obtain ⟨ct, e4, _, w4⟩ := DataW.trod_int Tryz.underlying36 g4
  obtain ⟨sm, e5, _, w5⟩ := DataW.trod_int Tryz.underlying2 g5
  obtain ⟨A, P, c, e6, hP⟩ := open_bk g6
  obtain ⟨B, Q, d, e7, hQ⟩ := open_bk g7
  simp only [List.cons.injEq, and_true] at e0 e1 e2 e3 e4 e5 e6 e7
  subst e0 e1 e2 e3 e4 e5 e6 e7
  exact ⟨k, s, z, zc, ct, sm, A, B, P, Q, c, d, rfl, hP, hQ, bounds_i64 w1, (bounds_u64 w3).1, (bounds_u64 w3).2, (bounds_u64 w4).1, (bounds_u64 w4).2, bounds_i64 w0, bounds_i64 w2, bounds_i64 w5⟩
end
end Go.Proofs.YtjnienlidmmhdaaGreatDoor
