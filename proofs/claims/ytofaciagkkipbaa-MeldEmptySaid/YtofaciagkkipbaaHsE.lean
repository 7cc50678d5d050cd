/- Maps whose keys are where a bucket is: what such a map holds, key by key; the laws of a look-up, a store, and of adding to an entry. -/
import Derived.Test.YtofaciagkkipbaaHsDb
import Derived.Maps.RangeWalk
import Derived.Maps.Ext
import Derived.WideKeyEntry
import Derived.DeepKeys4
namespace Go.Proofs.Ytofaciagkkipbaa
open Go.RowKit Go.Sort Go.Maps
open Go.ChangeMaps (setBlock heap_setBlock_same heap_setBlock_other)
open Go.WideElems (Fit)
set_option linter.unusedVariables false
set_option maxRecDepth 100000

theorem laidOutK : laidOutB Try.prog = true := by kernel_rfl
theorem rowK : (110 : TypeId) < Try.prog.types.size := of_decide_eq_true (by kernel_rfl)
theorem wideK : (match Try.prog.underlying 110 with | some (.array _ _) | some (.struct _) => true | _ => false) = true := by rw [Try.underlying110]
theorem lawK0 : WideMaps.KeyLaw Try.prog 110 := deep_law_laid laidOutK (m := 2) (by omega) rowK (by kernel_rfl) wideK
theorem lawK : Keyed Try.prog 110 := Keyed.of_law lawK0
theorem keyTypeK : Try.prog.keyType 110 = true := by kernel_rfl
theorem cellsK : Try.prog.cellsOf 110 = 3 := by kernel_rfl
theorem cellsI : Try.prog.cellsOf 3 = 1 := by kernel_rfl
/-- what an int has -/
def I64 (n : Int) : Prop := -9223372036854775808 ≤ n ∧ n ≤ 9223372036854775807
theorem wf_of {n : Int} (h : I64 n) : (Lit.int .i64 n).wf = true := by
  obtain ⟨h1, h2⟩ := h
  exact WalkArith.wf_i64 ⟨h1, h2⟩
def kL (s c i : Int) : Lit := .string (keyBytes [.int .i64 s, .int .i64 c, .int .i64 i])
theorem lits_int (d : Nat) {n : Int} (h : (Lit.int .i64 n).wf = true) : Try.prog.keyLits (d + 1) 3 [.int .i64 n] = some [.int .i64 n] := by
  unfold Program.keyLits
  simp [Try.underlying3, h]
theorem lits_key (d : Nat) {s c i : Int} (h1 : (Lit.int .i64 s).wf = true) (h2 : (Lit.int .i64 c).wf = true) (h3 : (Lit.int .i64 i).wf = true) : Try.prog.keyLits (d + 2) 110 [.int .i64 s, .int .i64 c, .int .i64 i] = some [.int .i64 s, .int .i64 c, .int .i64 i] := by
  unfold Program.keyLits
  simp [Try.underlying110, cellsK, cellsI, lits_int d h1, lits_int d h2, lits_int d h3]
theorem sizeK : ∃ m, Try.prog.types.size + 1 = m + 2 := by
  have h : (110 : Nat) < Try.prog.types.size := rowK
  exact ⟨Try.prog.types.size - 1, by omega⟩
theorem key_mk {s c i : Int} (hs : I64 s) (hc : I64 c) (hi : I64 i) : keyOf Try.prog 110 (.agg #[.int .i64 s, .int .i64 c, .int .i64 i]) = some (kL s c i) := by
  obtain ⟨m, hm⟩ := sizeK
  have hf : (Value.agg #[.int .i64 s, .int .i64 c, .int .i64 i]).formed Try.prog 110 = true := by simp [Value.formed, Try.underlying110, cellsK]
  unfold keyOf
  rw [Try.underlying110]
  simp only
  rw [keyTypeK, hf, hm]
  simp [Value.cells, lits_key m (wf_of hs) (wf_of hc) (wf_of hi), kL]
theorem of_wf {n : Int} (h : (Lit.int .i64 n).wf = true) : I64 n := by
  simp [Lit.wf, IntKind.min, IntKind.max, IntKind.signed, IntKind.bits] at h
  exact ⟨by omega, by omega⟩
theorem lits_int_inv (d : Nat) {cs : List Value} {l : List Lit} (h : Try.prog.keyLits d 3 cs = some l) : ∃ n, cs = [.int .i64 n] ∧ I64 n := by
  cases d with
  | zero => simp [Program.keyLits] at h
  | succ d =>
    unfold Program.keyLits at h
    rw [Try.underlying3] at h
    cases cs with
    | nil => simp at h
    | cons a r =>
      cases r with
      | cons b t => simp at h
      | nil =>
        cases a <;> simp at h
        obtain ⟨⟨rfl, hw⟩, _⟩ := h
        exact ⟨_, rfl, of_wf hw⟩
theorem key_inv {v : Value} {l : Lit} (h : keyOf Try.prog 110 v = some l) : ∃ s c i, v = .agg #[.int .i64 s, .int .i64 c, .int .i64 i] ∧ I64 s ∧ I64 c ∧ I64 i ∧ l = kL s c i := by
  obtain ⟨m, hm⟩ := sizeK
  have h0 := h
  unfold keyOf at h
  rw [Try.underlying110] at h
  simp only at h
  split at h
  · rename_i hc
    rw [keyTypeK, Bool.true_and] at hc
    cases v <;> simp [Value.formed, Try.underlying110, cellsK] at hc
    rename_i cs
    obtain ⟨ls, hl, hls⟩ := Option.map_eq_some_iff.1 h
    rw [hm] at hl
    unfold Program.keyLits at hl
    simp only [Try.underlying110] at hl
    have h3 : cs.toList.length = 3 := by simpa using hc
    obtain ⟨l0⟩ := cs
    match l0, h3 with
    | [a, b, c], _ =>
      simp [Value.cells, cellsK, cellsI] at hl
      cases hx : Try.prog.keyLits (m + 1) 3 [a] with
      | none => simp [hx] at hl
      | some x =>
        cases hy : Try.prog.keyLits (m + 1) 3 [b] with
        | none => simp [hx, hy] at hl
        | some y =>
          cases hz : Try.prog.keyLits (m + 1) 3 [c] with
          | none => simp [hx, hy, hz] at hl
          | some z =>
            obtain ⟨n0, e0, w0⟩ := lits_int_inv _ hx
            obtain ⟨n1, e1, w1⟩ := lits_int_inv _ hy
            obtain ⟨n2, e2, w2⟩ := lits_int_inv _ hz
            simp at e0 e1 e2
            subst e0 e1 e2
            refine ⟨n0, n1, n2, rfl, w0, w1, w2, ?_⟩
            rw [key_mk w0 w1 w2] at h0
            exact (Option.some.inj h0).symm
  · cases h
theorem kL_inj {s c i s' c' i' : Int} (hs : I64 s) (hc : I64 c) (hi : I64 i) (hs' : I64 s') (hc' : I64 c') (hi' : I64 i') (h : kL s c i = kL s' c' i') : s = s' ∧ c = c' ∧ i = i' := by
  have h1 := key_mk hs hc hi
  rw [h] at h1
  have h2 := lawK.inj h1 (key_mk hs' hc' hi')
  simpa using h2
theorem kL_key (s c i : Int) : WideAt.IsKeyLit (kL s c i) := trivial
end Go.Proofs.Ytofaciagkkipbaa
