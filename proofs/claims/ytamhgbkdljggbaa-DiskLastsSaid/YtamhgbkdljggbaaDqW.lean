/- Arguments that are steps, truths and cuts, read as what the contracts ask. -/
import Derived.Test.YtamhgbkdljggbaaDqB
import Derived.Test.YtamhgbkdljggbaaRows
import Derived.ProofKit
import Derived.OpenShut
import Derived.Deep.SlicePairs
import Derived.Deep.Strs
import Derived.Deep.Fields
import Derived.WideShapes
import Derived.ChangeArms
namespace Go.Proofs.Ytamhgbkdljggbaa.Dk
open Go.ChangeShapes Go.WideShapes Go.RowKit Go.Deep
set_option linter.unusedVariables false

structure OpD where
  kd : Int
  A : ByteArray
  B : ByteArray
  nn : Int
  Kb : Option Addr
  kn : Nat
  kc : Nat
  Cb : Option Addr
  cn : Nat
  cc : Nat
def opV (p : OpD) : List Value := [.int .i64 p.kd, .string p.A, .string p.B, .int .i64 p.nn, .slice p.Kb p.kn p.kc, .slice p.Cb p.cn p.cc]
/-- steps lie at A -/
def Opq (w : World) (A : Option Addr) (l : List OpD) : Prop := (∀ p ∈ l, p.A.size ≤ maxLen ∧ p.B.size ≤ maxLen ∧ I64 p.nn) ∧ (l = [] ∨ ∃ b off, A = some ⟨b, off, none⟩ ∧ ∀ i p, l[i]? = some p → ∀ j v, (opV p)[j]? = some v → w.cell? ⟨b, off + i * 6 + j, none⟩ = some v)
theorem spot_none {w : World} {a : Addr} {v : Value} {k : Nat} (h : w.cell? (a.add (0 * k)) = some v) : a = ⟨a.block, a.off, none⟩ := by
  simp [Addr.add] at h
  unfold World.cell? at h
  obtain ⟨b, o, s⟩ := a
  cases s with
  | none => rfl
  | some s =>
    simp only [Option.isSome_some, if_true] at h
    split at h <;> simp at h
theorem list_of {α : Type} {R : Nat → α → Prop} : ∀ (n : Nat), (∀ i, i < n → ∃ p, R i p) → ∃ l : List α, l.length = n ∧ ∀ j p, l[j]? = some p → R j p := by
  intro n
  induction n with
  | zero => exact fun _ => ⟨[], rfl, by simp⟩
  | succ k ih =>
    intro hi
    obtain ⟨l, hl, hp⟩ := ih (fun i h => hi i (by omega))
    obtain ⟨q, hq⟩ := hi k (by omega)
    refine ⟨l ++ [q], by simp [hl], fun j p hj => ?_⟩
    by_cases hjk : j < l.length
    · rw [List.getElem?_append_left hjk] at hj
      exact hp j p hj
    · rw [List.getElem?_append_right (by omega)] at hj
      obtain ⟨h1, h2⟩ := List.getElem?_eq_some_iff.1 hj
      simp at h1 h2
      obtain rfl : j = k := by omega
      rw [← h2]
      exact hq
section
variable {H : Type} {enc : TypeId × Value → H} {w : World} {spare : Nat → Bool} {held : Bool}
theorem slice_form {t e : TypeId} {fuel : Nat} {cs : List Value} {x : DataW H × List MemPlace} (ht : Try.prog.underlying t = some (.slice e)) (h : DataW.trod enc Try.prog w 0 spare held fuel t cs = some x) : ∃ A n c, cs = [.slice A n c] := by
  rcases open_slice ht h with ⟨rfl, _⟩ | ⟨a, len, cap, m, n, D, Pl, rfl, _⟩
  · exact ⟨_, _, _, rfl⟩
  · exact ⟨_, _, _, rfl⟩
set_option maxRecDepth 100000 in
theorem open_op {fuel : Nat} {cs : List Value} {x : DataW H × List MemPlace} (h : DataW.trod enc Try.prog w 0 spare held fuel 22 cs = some x) :
    ∃ (A : Option Addr) (l : List OpD) (c : Nat), cs = [.slice A l.length c] ∧ Opq w A l := by
  rcases open_slice Try.underlying22 h with ⟨rfl, _⟩ | ⟨a, len, cap, m, n, D, Pl, rfl, _, hlc, hcm, hm, hx, hc⟩
  · exact ⟨none, [], 0, rfl, (fun p hp => by cases hp), .inl rfl⟩
  · have hlm : len ≤ m := by rw [hm]; split <;> omega
    have c6 : Try.prog.cellsOf 38 = 6 := by kernel_rfl
    have cs1 : Try.prog.cellsOf 9 = 1 := by kernel_rfl
    have ci1 : Try.prog.cellsOf 3 = 1 := by kernel_rfl
    have ck1 : Try.prog.cellsOf 23 = 1 := by kernel_rfl
    have cc1 : Try.prog.cellsOf 24 = 1 := by kernel_rfl
    have hi : ∀ i, i < len → ∃ p : OpD, (∀ j v, (opV p)[j]? = some v → w.cell? ((a.add (i * 6)).add j) = some v) ∧ p.A.size ≤ maxLen ∧ p.B.size ≤ maxLen ∧ I64 p.nn := fun i hi => by
      obtain ⟨cs', h1, h2⟩ := hc i (by omega)
      rw [c6] at h1
      obtain ⟨_, hlen, hcell⟩ := World.cells?_some h1
      obtain ⟨xs, k, _, _, hl, hlen2, hf⟩ := DataW.trod_struct Try.underlying38 h2
      match cs', hlen, xs, hlen2 with
      | [v0, v1, v2, v3, v4, v5], _, [y0, y1, y2, y3, y4, y5], _ =>
        have g0 := hf 0 _ rfl
        have g1 := hf 1 _ rfl
        have g2 := hf 2 _ rfl
        have g3 := hf 3 _ rfl
        have g4 := hf 4 _ rfl
        have g5 := hf 5 _ rfl
        simp [cs1, ci1, ck1, cc1] at g0 g1 g2 g3 g4 g5
        obtain ⟨x0, e0, _, w0⟩ := DataW.trod_int Try.underlying3 g0
        obtain ⟨x1, e1, _, w1⟩ := DataW.trod_string Try.underlying9 g1
        obtain ⟨x2, e2, _, w2⟩ := DataW.trod_string Try.underlying9 g2
        obtain ⟨x3, e3, _, w3⟩ := DataW.trod_int Try.underlying3 g3
        obtain ⟨A4, n4, c4, e4⟩ := slice_form Try.underlying23 g4
        obtain ⟨A5, n5, c5, e5⟩ := slice_form Try.underlying24 g5
        simp only [List.cons.injEq, and_true] at e0 e1 e2 e3 e4 e5
        subst e0 e1 e2 e3 e4 e5
        refine ⟨⟨x0, x1, x2, x3, A4, n4, c4, A5, n5, c5⟩, fun j v hj => ?_, w1, w2, bounds_i64 w3⟩
        have hj6 : j < 6 := (List.getElem?_eq_some_iff.1 hj).1
        have := hcell j (by omega)
        rw [this]
        exact hj
    obtain ⟨l, hl, hp⟩ := list_of len hi
    subst hl
    refine ⟨some a, l, cap, rfl, fun p hpm => ?_, ?_⟩
    · obtain ⟨k, hk, rfl⟩ := List.getElem_of_mem hpm
      exact (hp k _ (List.getElem?_eq_getElem hk)).2
    · by_cases h0 : l.length = 0
      · exact .inl (List.eq_nil_of_length_eq_zero h0)
      · have hp0 := (hp 0 l[0] (List.getElem?_eq_getElem (by omega))).1 0 _ rfl
        have ha : a = ⟨a.block, a.off, none⟩ := spot_none (k := 6) (by
          have e : (a.add (0 * 6)).add 0 = a.add (0 * 6) := by simp [Addr.add]
          rw [e] at hp0
          exact hp0)
        refine .inr ⟨a.block, a.off, congrArg some ha, fun i p hip j v hj => ?_⟩
        have := (hp i p hip).1 j v hj
        rw [ha, Tk.addr_add, Tk.addr_add] at this
        exact this
end
end Go.Proofs.Ytamhgbkdljggbaa.Dk
