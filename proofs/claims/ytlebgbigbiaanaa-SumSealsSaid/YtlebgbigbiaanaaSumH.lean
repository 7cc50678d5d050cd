/- The contract of the document's Four. -/
import Derived.Test.YtlebgbigbiaanaaSumG
namespace Go.Proofs.Ytlebgbigbiaanaa
open Go.RowKit Go.Sort
set_option linter.unusedVariables false

theorem sl_one (w : World) (x : Nat) (hx : x < 256) : Sl (w.alloc (.cells #[.int .u8 (x : Int)] 5)) (some ⟨w.heap.size, 0, none⟩) 1 [x] := by
  refine ⟨by simp, by omega, fun e => by simp at e, by simpa using hx, by simp, .inr ⟨_, 0, rfl, fun j y hj => ?_⟩⟩
  have h0 : j = 0 := by
    obtain ⟨h, _⟩ := List.getElem?_eq_some_iff.1 hj
    simpa using h
  subst h0
  simp at hj
  subst hj
  simp [go_sem]
theorem sl_one' (w : World) (x : Nat) (v : Int) (hv : v = (x : Int)) (hx : x < 256) : Sl (w.alloc (.cells #[.int .u8 v] 5)) (some ⟨w.heap.size, 0, none⟩) 1 [x] := by
  subst hv
  exact sl_one w x hx
theorem fourL_at (n k : Nat) (h : k < 4) : (fourL n)[k]? = some (n / 256 ^ k % 256) := by
  rcases (show k = 0 ∨ k = 1 ∨ k = 2 ∨ k = 3 by omega) with rfl | rfl | rfl | rfl
  · show some (n % 256) = _; simp
  · rfl
  · rfl
  · rfl
def FourPost (w : World) (n : Nat) (e : Ending) (w' : World) : Prop := ∃ A c, e = .returned (.slice A 4 c) ∧ Sl w' A c (fourL n) ∧ Below w.heap.size w w'

set_option maxHeartbeats 1000000 in
set_option maxRecDepth 100000 in
theorem reffour_any (n : Nat) (w : World) (h : n < 4294967296) :
    Calls Try.prog 16 #[.int .u32 (n : Int)] w (FourPost w n) := by
  go_enter Try.func16, Try.ntmps16
  go_wp2_with fail
  go_loopw [0, 3, 4] (fun n0 v i wr => ∃ k : Nat, k ≤ 4 ∧ i = .int .i64 k ∧ n0 = .int .u32 ((n / 256 ^ k : Nat) : Int) ∧ wr.ownsRow w.heap.size 5 1 v k (cellsB ((fourL n).take k)) ∧ Below w.heap.size w wr) (fun _ _ i _ => 4 - (intOf i).toNat)
  case atStart => exact ⟨0, by omega, rfl, by simp, World.ownsRow_nil _ _ _ _, Below.refl _ _⟩
  case round =>
    obtain ⟨k, hk, rfl, rfl, hown, hbel⟩ := hrel
    have HO := Lib.hid hown
    have HB := Lib.hid hbel
    clear hown hbel
    by_cases hlt : k < 4
    · have hki : (k : Int) < 4 := by omega
      have hD : n / 256 ^ k / 256 = n / 256 ^ (k + 1) := by rw [Nat.pow_succ, Nat.div_div_eq_div_mul]
      have HD := Lib.hid hD
      have HT := Lib.hid (take_snoc (fourL n) k _ (fourL_at n k hlt))
      have hle : n / 256 ^ k ≤ n := Nat.div_le_self _ _
      obtain ⟨y, hy⟩ : ∃ y, n / 256 ^ k = y := ⟨_, rfl⟩
      rw [hy] at HD HT hle ⊢
      clear hy hD
      go_wp2_with (at_builtin; refine wpList_append_bt rfl _ _ rfl w.heap.size u3 k ((fourL n).take k) rfl ?c0 (some ⟨wr.heap.size, 0, none⟩) 1 1 [y % 256] rfl rfl ?c1 ?c2 ?c3 ?_)
      case c0 => exact HO.out.alloc _
      case c1 => exact sl_one' _ _ _ (by omega) (by omega)
      case c2 => omega
      case c3 => have := HB.out.size; simp; omega
      intro v' w1 hown hgrow
      rw [← HT.out] at hown
      have hb : Below w.heap.size w w1 := below_own (HB.out.alloc HB.out.size _) (by have := HB.out.size; simp; omega) (HO.out.alloc _) hgrow
      have HP := Lib.hid (And.intro hown hb)
      clear hown hgrow hb
      go_wp2_with fail
      go_roundw
      case rel => exact ⟨k + 1, by omega, by go_num, ret_val (by rw [← HD.out]; omega), HP.out.1, HP.out.2⟩
      case measure => simp [intOf] <;> omega
    · obtain rfl : k = 4 := by omega
      have e4 : List.take 4 (fourL n) = fourL n := rfl
      rw [e4] at HO
      obtain ⟨_, A, c, rfl, hS⟩ := own_sl HO.out (fourL_lt n) (by simp [fourL])
      have HS := Lib.hid hS
      clear hS e4
      go_wp2_with fail
      go_ret
      exact ⟨A, c, rfl, HS.out, HB.out⟩
end Go.Proofs.Ytlebgbigbiaanaa
