/- The document's example; a match by what the pattern means. -/
import Derived.Test.YtnabfganecghkaaDoorRxW
namespace Go.Proofs.YtnabfganecghkaaDoor
open Go.RowKit
set_option linter.unusedVariables false

/-- what a match of what was read answers -/
def mtR (r : Res) (s : List UInt8) : Bool := matchF (pcR r) (plR r) s
theorem mtR_ok (x : Rx) (q s : List UInt8) : mtR (.ok x q) s = true ↔ Lang x s := match_lang x s
theorem simF_zero : ∀ s : List UInt8, simF [] 0 0 false s = false
  | [] => rfl
  | c :: r => by
    rw [simF]
    simp [stepF]
    exact simF_zero r
theorem mtR_err (e : Int) (s : List UInt8) : mtR (.err e) s = false := simF_zero s
theorem rmatch_any (r : Res) (V : Value) (t : ByteArray) (w : World) (h : Rg w V (plR r) (pcR r)) (ht : t.size ≤ 4611686018427387904) :
    Calls Tryd.prog 31 #[V, .string t] w fun y w' => y = .returned (.bool (mtR r t.data.toList)) ∧ Below w.heap.size w w' := match_any V _ _ t w h ht
def exB : ByteArray := ⟨#[97, 40, 98, 124, 99, 41, 42]⟩
def exR : Res := parseF exB.data.toList
theorem ex_e : errN exR = 0 := by decide
theorem ex_1 : mtR exR [97, 98, 99, 98] = true := by decide
theorem ex_2 : mtR exR [97, 98, 100] = false := by decide
/-- a pattern's value, opened -/
def rgW (A : Option Addr) (n c f l : Nat) (e : Bool) : Value := .agg #[.slice A n c, .int .u64 (f : Nat), .int .u64 (l : Nat), .bool e]
theorem par_open {r : Res} {w w' : World} {y : Ending} (h : ParP r w y w') : ∃ A n c f l e, y = .returned (.tuple #[.agg #[.slice A n c, .int .u64 (f : Nat), .int .u64 (l : Nat), .bool e], .int .i64 (errN r)]) ∧ Hid (Rg w' (.agg #[.slice A n c, .int .u64 (f : Nat), .int .u64 (l : Nat), .bool e]) (plR r) (pcR r)) ∧ Hid (∀ e, r = .err e → e ≠ 0) ∧ Below w.heap.size w w' := by
  obtain ⟨⟨V, h1, h2⟩, h3, h4⟩ := h
  obtain ⟨A, c, h5, _⟩ := h2.ex
  subst h5
  exact ⟨A, _, c, _, _, _, h1, Lib.hid h2, Lib.hid h3, h4⟩
/-- a box for a pattern -/
structure Vb (w : World) (h : Nat) (A : Option Addr) (n c f l : Nat) (e : Bool) : Prop where
  hw : h < w.heap.size
  blk : w.heap[h]? = some (.cells #[.slice A n c, .int .u64 (f : Nat), .int .u64 (l : Nat), .bool e] 52 (0, 0))
theorem Vb.below {w w' : World} {h n c f l : Nat} {A : Option Addr} {e : Bool} (b : Vb w h A n c f l e) (k : Below w.heap.size w w') : Vb w' h A n c f l e :=
  ⟨Nat.lt_of_lt_of_le b.hw k.size, (k.block h b.hw).trans b.blk⟩
theorem Vb.cells {w : World} {h n c f l : Nat} {A : Option Addr} {e : Bool} (b : Vb w h A n c f l e) : w.cell? ⟨h, 0, none⟩ = some (.slice A n c) ∧ w.cell? ⟨h, 1, none⟩ = some (.int .u64 (f : Nat)) ∧ w.cell? ⟨h, 2, none⟩ = some (.int .u64 (l : Nat)) ∧ w.cell? ⟨h, 3, none⟩ = some (.bool e) := by
  have hb := b.blk
  refine ⟨?_, ?_, ?_, ?_⟩
  · rw [cell_of_row _ _ _ _ _ _ hb]; rfl
  · rw [cell_of_row _ _ _ _ _ _ hb]; rfl
  · rw [cell_of_row _ _ _ _ _ _ hb]; rfl
  · rw [cell_of_row _ _ _ _ _ _ hb]; rfl
theorem Vb.new (w : World) (A : Option Addr) (n c f l : Nat) (e : Bool) : Vb (w.alloc (.cells #[.slice A n c, .int .u64 (f : Nat), .int .u64 (l : Nat), .bool e] 52 (0, 0))) w.heap.size A n c f l e := ⟨by simp, heap_alloc_new w _⟩
end Go.Proofs.YtnabfganecghkaaDoor
