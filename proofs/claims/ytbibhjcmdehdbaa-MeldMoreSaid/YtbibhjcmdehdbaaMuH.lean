/- Arguments that are slices of histograms. -/
import Derived.Test.YtbibhjcmdehdbaaHsP
import Derived.Test.YtbibhjcmdehdbaaMdR
import Derived.Deep.Slices
namespace Go.Proofs.Ytbibhjcmdehdbaa
open Go.ChangeShapes Go.WideShapes Go.RowKit Go.Deep
set_option linter.unusedVariables false
set_option maxRecDepth 100000

theorem spot_none8 {w : World} {a : Addr} {v : Value} (h : w.cell? (a.add (0 * 8)) = some v) : a = ⟨a.block, a.off, none⟩ := by
  simp [Addr.add] at h
  unfold World.cell? at h
  obtain ⟨b, o, s⟩ := a
  cases s with
  | none => rfl
  | some s =>
    simp only [Option.isSome_some, if_true] at h
    split at h <;> simp at h
section
variable {H : Type} {enc : TypeId × Value → H} {w : World} {spare : Nat → Bool} {held : Bool}
/-- the cells of a histogram, read -/
theorem open_histc {fuel : Nat} {cs : List Value} {x : DataW H × List MemPlace} (h8 : cs.length = 8) (hf : DataW.trod enc Try.prog w 0 spare held fuel 25 cs = some x) :
    ∃ (h : HV) (A B : Option Addr) (c d : Nat), cs = [.int .i64 h.k, .int .i64 h.s, .int .i64 h.z, .int .u64 h.zc, .int .u64 h.ct, .int .i64 h.sm, .slice A h.P.length c, .slice B h.Q.length d] ∧ Bk w A h.P ∧ Bk w B h.Q ∧ (0 ≤ h.zc ∧ h.zc ≤ 18446744073709551615) ∧ inI64 h.sm := by
  obtain ⟨v0, v1, v2, v3, v4, v5, v6, v7, rfl⟩ := list8 h8
  obtain ⟨xs, n, _, _, _, hlen, hfs⟩ := DataW.trod_struct Try.underlying25 hf
  obtain ⟨y0, y1, y2, y3, y4, y5, y6, y7, rfl⟩ := list8 (by simpa using hlen)
  have g0 := hfs 0 _ rfl
  have g1 := hfs 1 _ rfl
  have g2 := hfs 2 _ rfl
  have g3 := hfs 3 _ rfl
  have g4 := hfs 4 _ rfl
  have g5 := hfs 5 _ rfl
  have g6 := hfs 6 _ rfl
  have g7 := hfs 7 _ rfl
  have cj : Try.prog.cellsOf 2 = 1 := by kernel_rfl
  have ci : Try.prog.cellsOf 3 = 1 := by kernel_rfl
  have cu : Try.prog.cellsOf 22 = 1 := by kernel_rfl
  have cb : Try.prog.cellsOf 23 = 1 := by kernel_rfl
  simp [ci, cj, cu, cb] at g0 g1 g2 g3 g4 g5 g6 g7
  obtain ⟨k, e0, _, w0⟩ := DataW.trod_int Try.underlying3 g0
  obtain ⟨s, e1, _, w1⟩ := DataW.trod_int Try.underlying3 g1
  obtain ⟨z, e2, _, w2⟩ := DataW.trod_int Try.underlying3 g2
  obtain ⟨zc, e3, _, w3⟩ := DataW.trod_int Try.underlying22 g3
  obtain ⟨ct, e4, _, w4⟩ := DataW.trod_int Try.underlying22 g4
  obtain ⟨sm, e5, _, w5⟩ := DataW.trod_int Try.underlying2 g5
  obtain ⟨A, P, c, e6, hP⟩ := open_bk g6
  obtain ⟨B, Q, d, e7, hQ⟩ := open_bk g7
  simp only [List.cons.injEq, and_true] at e0 e1 e2 e3 e4 e5 e6 e7
  subst e0 e1 e2 e3 e4 e5 e6 e7
  exact ⟨⟨k, s, z, zc, ct, sm, P, Q⟩, A, B, c, d, rfl, hP, hQ, ⟨(bounds_u64 w3).1, (bounds_u64 w3).2⟩, bounds_i64 w5⟩
/-- an argument that is a slice of histograms -/
theorem open_hl {r : Reach} {b0 : Nat} {v : Value} {d : DataW H} {p : List MemPlace} (hv : Value.okWide Try.prog w r b0 34 v) (h : DataW.Trod enc Try.prog w 0 spare held 34 v d p) :
    ∃ (A : Option Addr) (hs : List HV) (n c : Nat), v = .slice A n c ∧ n = hs.length ∧ n ≤ c ∧ (n ≤ 12 → Hl w A hs) ∧ ∀ x ∈ hs, inI64 x.sm := by
  obtain ⟨fuel, hf⟩ := h
  obtain ⟨a, n, c, rfl⟩ := okWide_slice Try.underlying34 hv
  rcases open_slice Try.underlying34 hf with ⟨e, _⟩ | ⟨a', len, cap, m, k, _, _, e, _, hlc, _, hm, _, hc⟩
  · simp [Value.cells] at e
    obtain ⟨rfl, rfl, rfl⟩ := e
    exact ⟨none, [], 0, 0, rfl, rfl, Nat.le_refl _, fun _ => ⟨by simp, .inl rfl⟩, by simp⟩
  · simp [Value.cells] at e
    obtain ⟨rfl, rfl, rfl⟩ := e
    have hlm : n ≤ m := by rw [hm]; split <;> omega
    have ch : Try.prog.cellsOf 25 = 8 := by kernel_rfl
    have hi : ∀ i, i < n → ∃ q : HV, ∃ (A B : Option Addr) (c d : Nat), (∀ t (vs : List Value), vs = [.int .i64 q.k, .int .i64 q.s, .int .i64 q.z, .int .u64 q.zc, .int .u64 q.ct, .int .i64 q.sm, .slice A q.P.length c, .slice B q.Q.length d] → t < 8 → w.cell? ((a'.add (i * 8)).add t) = vs[t]?) ∧ Bk w A q.P ∧ Bk w B q.Q ∧ (0 ≤ q.zc ∧ q.zc ≤ 18446744073709551615) ∧ inI64 q.sm := fun i hi => by
      obtain ⟨cs', h1, h2⟩ := hc i (by omega)
      rw [ch] at h1
      obtain ⟨_, hlen, hcell⟩ := World.cells?_some h1
      obtain ⟨q, A, B, c, d, e, hA, hB, hz, hsm⟩ := open_histc hlen h2
      refine ⟨q, A, B, c, d, fun t vs hvs ht => ?_, hA, hB, hz, hsm⟩
      rw [hvs, ← e]
      exact hcell t ht
    obtain ⟨hs, hsl, hp⟩ := list_of n hi
    subst hsl
    refine ⟨some a', hs, hs.length, c, rfl, rfl, hlc, fun h12 => ⟨by omega, ?_⟩, fun x hx => ?_⟩
    · by_cases h0 : hs.length = 0
      · exact .inl h0
      · have hk := hp 0 (hs[0]'(by omega)) (List.getElem?_eq_getElem (by omega))
        obtain ⟨A, B, c1, d1, hcs, _⟩ := hk
        have ha := spot_none8 (hcs 0 _ rfl (by omega))
        obtain ⟨b, o, sp⟩ := a'
        obtain rfl : sp = none := by injection ha
        refine .inr ⟨b, o, rfl, fun j q hj => ?_⟩
        obtain ⟨A, B, c1, d1, hcs, hA, hB, hz, _⟩ := hp j q hj
        have hq : ∀ t (vs : List Value), vs = [.int .i64 q.k, .int .i64 q.s, .int .i64 q.z, .int .u64 q.zc, .int .u64 q.ct, .int .i64 q.sm, .slice A q.P.length c1, .slice B q.Q.length d1] → t < 8 → w.cell? ⟨b, o + j * 8 + t, none⟩ = vs[t]? := fun t vs hvs ht => by
          have := hcs t vs hvs ht
          rw [addr_at, addr_at] at this
          exact this
        exact ⟨A, B, c1, d1, ⟨hq 0 _ rfl (by omega), hq 1 _ rfl (by omega), hq 2 _ rfl (by omega), hq 3 _ rfl (by omega), hq 4 _ rfl (by omega), hq 5 _ rfl (by omega), hq 6 _ rfl (by omega), hq 7 _ rfl (by omega)⟩, hA, hB, hz.1, hz.2⟩
    · obtain ⟨j, hj, e⟩ := List.getElem_of_mem hx
      obtain ⟨_, _, _, _, _, _, _, _, hsm⟩ := hp j x (by rw [List.getElem?_eq_getElem hj, e])
      exact hsm
end
end Go.Proofs.Ytbibhjcmdehdbaa
