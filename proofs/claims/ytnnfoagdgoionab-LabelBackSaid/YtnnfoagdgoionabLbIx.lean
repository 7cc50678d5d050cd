/- IndexAny of the signs at any text: what is no ASCII byte is none of them. -/
import Derived.Test.YtnnfoagdgoionabLbI
import Derived.Laws.RangeAny
import Derived.Lib.IndexAny
import Derived.Deep.LoopGhost
namespace Go.Proofs.Ytnnfoagdgoionab
open Go.RowKit
set_option linter.unusedVariables false

theorem get_lt (s : ByteArray) (j : Nat) (h : j < s.size) : s.get! j = s[j] := by
  have := get_at s j h
  rwa [Nat.add_zero] at this
/-- what a rune that is no ASCII byte takes are bytes that are none -/
theorem decode_skip (s : ByteArray) (pos : Nat) (h : pos < s.size) (ha : 128 ≤ s[pos].toNat) :
    pos + (Utf8.decode s pos).2 ≤ s.size ∧ ∀ j, pos ≤ j → j < pos + (Utf8.decode s pos).2 → 128 ≤ (s.get! j).toNat := by
  have e0 := get_at s pos h
  have hn : ¬ (s[pos]).toNat < 128 := by omega
  have hone : pos + 1 ≤ s.size ∧ ∀ j, pos ≤ j → j < pos + 1 → 128 ≤ (s.get! j).toNat := by
    refine ⟨by omega, fun j h1 h2 => ?_⟩
    obtain rfl : j = pos := by omega
    rw [get_lt s j h]; exact ha
  simp only [Utf8.decode, e0, hn, if_false]
  split
  · rename_i hc
    simp only [Bool.and_eq_true, decide_eq_true_eq, beq_iff_eq] at hc
    split
    · refine ⟨by simp only; omega, fun j h1 h2 => ?_⟩
      simp only at h2
      rcases (show j = pos ∨ j = pos + 1 by omega) with rfl | rfl
      · rw [get_lt s j h]; exact ha
      · omega
    · exact hone
  · split
    · rename_i hc
      simp only [Bool.and_eq_true, decide_eq_true_eq, beq_iff_eq] at hc
      split
      · refine ⟨by simp only; omega, fun j h1 h2 => ?_⟩
        simp only at h2
        rcases (show j = pos ∨ j = pos + 1 ∨ j = pos + 2 by omega) with rfl | rfl | rfl
        · rw [get_lt s j h]; exact ha
        · omega
        · omega
      · exact hone
    · split
      · rename_i hc
        simp only [Bool.and_eq_true, decide_eq_true_eq, beq_iff_eq] at hc
        split
        · refine ⟨by simp only; omega, fun j h1 h2 => ?_⟩
          simp only at h2
          rcases (show j = pos ∨ j = pos + 1 ∨ j = pos + 2 ∨ j = pos + 3 by omega) with rfl | rfl | rfl | rfl
          · rw [get_lt s j h]; exact ha
          · omega
          · omega
          · omega
        · exact hone
      · exact hone
def sg : ByteArray := ⟨#[123, 125, 61, 44, 34]⟩
theorem sg_ascii : ∀ b ∈ sg.data.toList, b.toNat < 128 := by decide
theorem indexByte_none : ∀ (l : List UInt8) (c : UInt8), (∀ b ∈ l, b ≠ c) → Lib.indexByte l c = -1
  | [], c, _ => rfl
  | b :: l, c, h => by
    unfold Lib.indexByte
    have h1 : (b == c) = false := by simpa using h b (by simp)
    rw [h1, indexByte_none l c (fun x hx => h x (by simp [hx]))]
    rfl
theorem ib_high (k : Nat) (c : UInt8) (w : World) (hc : 128 ≤ c.toNat) : Calls Try.prog 85 #[.string (sg.extract k sg.size), .int .u8 (c.toNat : Int)] w fun e w' => e = .returned (.int .i64 (-1)) ∧ w = w' :=
  (Try.strings_IndexByte _ _ w).mono fun e w' ⟨he, hw⟩ => ⟨by
    rw [he, show ((c.toNat : Int)).toNat.toUInt8 = c by simp]
    rw [indexByte_none _ _ (fun b hb hbc => by
      have := sg_ascii b (mem_extract hb)
      rw [hbc] at this
      omega)], hw.symm⟩
end Go.Proofs.Ytnnfoagdgoionab
