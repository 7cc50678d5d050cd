/- Numbers as four bytes: contracts of the program's Number and Four. -/
import Derived.Test.YtlebgbigbiaanaaSumB
import Derived.Laws.Bits64
namespace Go.Proofs.Ytlebgbigbiaanaa
open Go.RowKit
set_option linter.unusedVariables false

/-- the number of the first k bytes, the lowest first -/
def numK (bs : List Nat) : Nat → Nat
  | 0 => 0
  | k + 1 => numK bs k + bs.getD k 0 * 256 ^ k
def numL (bs : List Nat) : Nat := numK bs 4
def fourL (n : Nat) : List Nat := [n % 256, n / 256 % 256, n / 65536 % 256, n / 16777216 % 256]

theorem getD_lt {bs : List Nat} (h : ∀ x ∈ bs, x < 256) (k : Nat) : bs.getD k 0 < 256 := by
  by_cases hk : k < bs.length
  · have : bs.getD k 0 = bs[k] := by simp [List.getD, hk]
    rw [this]; exact h _ (List.getElem_mem hk)
  · have : bs.getD k 0 = 0 := by rw [List.getD_eq_getElem?_getD, List.getElem?_eq_none (by omega)]; rfl
    omega
theorem numK_at (bs : List Nat) : numK bs 0 = 0 ∧ numK bs 1 = bs.getD 0 0 ∧ numK bs 2 = bs.getD 0 0 + bs.getD 1 0 * 256 ∧ numK bs 3 = bs.getD 0 0 + bs.getD 1 0 * 256 + bs.getD 2 0 * 65536 ∧
    numK bs 4 = bs.getD 0 0 + bs.getD 1 0 * 256 + bs.getD 2 0 * 65536 + bs.getD 3 0 * 16777216 := by
  have p0 : (256 : Nat) ^ 0 = 1 := rfl
  have p1 : (256 : Nat) ^ 1 = 256 := rfl
  have p2 : (256 : Nat) ^ 2 = 65536 := rfl
  have p3 : (256 : Nat) ^ 3 = 16777216 := rfl
  simp only [numK, p0, p1, p2, p3, Nat.mul_one, Nat.zero_add, and_self]
theorem numL_lt {bs : List Nat} (h : ∀ x ∈ bs, x < 256) : numL bs < 4294967296 := by
  have h0 := getD_lt h 0
  have h1 := getD_lt h 1
  have h2 := getD_lt h 2
  have h3 := getD_lt h 3
  have := (numK_at bs).2.2.2.2
  unfold numL
  omega
/-- what is no longer there counts nothing -/
theorem numK_short {bs : List Nat} {k : Nat} (h : bs.length ≤ k) : ∀ n, k ≤ n → numK bs n = numK bs k := by
  intro n
  induction n with
  | zero => intro hn; rw [show k = 0 by omega]
  | succ n ih =>
    intro hn
    by_cases e : k = n + 1
    · rw [e]
    · have hz : bs.getD n 0 = 0 := by rw [List.getD_eq_getElem?_getD, List.getElem?_eq_none (by omega)]; rfl
      show numK bs n + bs.getD n 0 * 256 ^ n = _
      rw [hz, Nat.zero_mul, Nat.add_zero]
      exact ih (by omega)

theorem or_add {a x k : Nat} (ha : a < 2 ^ k) : a ||| x * 2 ^ k = a + x * 2 ^ k := by
  rw [Nat.or_comm, Nat.add_comm, Nat.mul_comm]
  exact (Nat.two_pow_add_eq_or_of_lt ha x).symm
theorem or_int0 (a x : Nat) (ha : a = 0) (hx : x < 256) : bits .or .u32 (a : Int) (x : Int) = ((a + x : Nat) : Int) := by
  subst ha
  have := u32_or_nat 0 x (by decide) (by omega)
  rw [this]; simp
theorem or_int (a x k : Nat) (ha : a < 2 ^ k) (h : x * 2 ^ k < 4294967296) (hk : 2 ^ k ≤ 4294967296) : bits .or .u32 (a : Int) ((x * 2 ^ k : Nat) : Int) = ((a + x * 2 ^ k : Nat) : Int) := by
  rw [u32_or_nat a (x * 2 ^ k) (by omega) h, or_add ha]

/-- one byte laid beside the others, in the walk's own words -/
theorem numK_or {bs : List Nat} (h : ∀ x ∈ bs, x < 256) {k x : Nat} (hk : k < 4) (hx : bs.getD k 0 = x) : bits .or .u32 ((numK bs k : Nat) : Int) ((x : Int) * 2 ^ (8 * k)) = ((numK bs (k + 1) : Nat) : Int) := by
  have h0 := getD_lt h 0
  have h1 := getD_lt h 1
  have h2 := getD_lt h 2
  have hx8 := getD_lt h k
  rw [hx] at hx8
  obtain ⟨n0, n1, n2, n3, n4⟩ := numK_at bs
  have hlt : numK bs k < 2 ^ (8 * k) := by
    rcases (show k = 0 ∨ k = 1 ∨ k = 2 ∨ k = 3 by omega) with rfl | rfl | rfl | rfl
    · rw [n0]; decide
    · rw [n1]; show _ < 256; omega
    · rw [n2]; show _ < 65536; omega
    · rw [n3]; show _ < 16777216; omega
  have hp : 2 ^ (8 * k) ≤ 16777216 := by
    rcases (show k = 0 ∨ k = 1 ∨ k = 2 ∨ k = 3 by omega) with rfl | rfl | rfl | rfl <;> decide
  have e := or_int (numK bs k) x (8 * k) hlt (by
    have := Nat.mul_le_mul (show x ≤ 255 by omega) hp
    omega) (by omega)
  have e2 : numK bs (k + 1) = numK bs k + x * 2 ^ (8 * k) := by
    show numK bs k + bs.getD k 0 * 256 ^ k = _
    rw [hx, Nat.pow_mul]
  rw [e2, ← e]
  congr 1

set_option maxHeartbeats 1000000 in
theorem number_any (A : Option Addr) (c : Nat) (bs : List Nat) (w : World) (h : Bt w A bs) :
    Calls Try.prog 17 #[.slice A bs.length c] w fun e w' => e = .returned (.int .u32 ((numL bs : Nat) : Int)) ∧ w = w' := by
  have HB := Lib.hid h
  have hlen := h.2.1
  have H8 := Lib.hid h.1
  clear h
  by_cases hm : 4 < bs.length
  · have h4 : (4 : Int) < (bs.length : Int) := by omega
    have HE : Hid (numK bs 4 = numL bs) := Lib.hid rfl
    go_enter Try.func17, Try.ntmps17
    go_wp2
    go_loop [3, 8] (fun n i => ∃ k : Nat, k ≤ 4 ∧ i = .int .i64 k ∧ n = .int .u32 ((numK bs k : Nat) : Int)) (fun _ i => 4 - (intOf i).toNat)
    case atStart => exact ⟨0, by omega, rfl, rfl⟩
    case round =>
      obtain ⟨k, hk, rfl, rfl⟩ := hrel
      by_cases hlt : k < 4
      · obtain ⟨b, off, rfl, hc⟩ := HB.out.some_ (by omega)
        obtain ⟨x, hx⟩ := getElem?_lt (l := bs) (k := k) (by omega)
        have hcx := hc k x hx
        have hx8 : x < 256 := H8.out x (by
          obtain ⟨hi, rfl⟩ := List.getElem?_eq_some_iff.1 hx
          exact List.getElem_mem hi)
        have hD : bs.getD k 0 = x := by rw [List.getD_eq_getElem?_getD, hx]; rfl
        have HO := Lib.hid (numK_or H8.out (show k < 4 by omega) hD)
        clear hc hx hD
        have hki : (k : Int) < (4 : Int) := by omega
        have hk4 : k = 0 ∨ k = 1 ∨ k = 2 ∨ k = 3 := by omega
        obtain ⟨N, hN⟩ : ∃ N, numK bs k = N := ⟨_, rfl⟩
        obtain ⟨M, hM⟩ : ∃ M, numK bs (k + 1) = M := ⟨_, rfl⟩
        rw [hN, hM] at HO
        have HM := Lib.hid hM
        rw [hN]
        clear hN hM
        rcases hk4 with rfl | rfl | rfl | rfl
        · have e := HO.out
          simp at e
          simp only [Nat.add_zero] at hcx
          go_wp2
          go_round
          case rel => exact ⟨1, by omega, by go_num, ret_val (by rw [← HM.out])⟩
          case measure => simp [intOf] <;> omega
        · have e := HO.out
          simp at e
          go_wp2
          go_round
          case rel => exact ⟨2, by omega, by go_num, ret_val (by rw [← HM.out])⟩
          case measure => simp [intOf] <;> omega
        · have e := HO.out
          simp at e
          go_wp2
          go_round
          case rel => exact ⟨3, by omega, by go_num, ret_val (by rw [← HM.out])⟩
          case measure => simp [intOf] <;> omega
        · have e := HO.out
          simp at e
          go_wp2
          go_round
          case rel => exact ⟨4, by omega, by go_num, ret_val (by rw [← HM.out])⟩
          case measure => simp [intOf] <;> omega
      · obtain rfl : k = 4 := by omega
        have hki : ¬ ((4 : Int) < (4 : Int)) := by omega
        go_wp2
        go_ret
        exact ⟨ret_int (by rw [HE.out]), rfl⟩
  · have h4 : (bs.length : Int) ≤ 4 := by omega
    have HE : Hid (numK bs bs.length = numL bs) := Lib.hid (numK_short (Nat.le_refl _) 4 (by omega)).symm
    go_enter Try.func17, Try.ntmps17
    go_wp2
    go_loop [3, 8] (fun n i => ∃ k : Nat, k ≤ bs.length ∧ i = .int .i64 k ∧ n = .int .u32 ((numK bs k : Nat) : Int)) (fun _ i => bs.length - (intOf i).toNat)
    case atStart => exact ⟨0, by omega, rfl, rfl⟩
    case round =>
      obtain ⟨k, hk, rfl, rfl⟩ := hrel
      by_cases hlt : k < bs.length
      · obtain ⟨b, off, rfl, hc⟩ := HB.out.some_ (by omega)
        obtain ⟨x, hx⟩ := getElem?_lt (l := bs) (k := k) (by omega)
        have hcx := hc k x hx
        have hx8 : x < 256 := H8.out x (by
          obtain ⟨hi, rfl⟩ := List.getElem?_eq_some_iff.1 hx
          exact List.getElem_mem hi)
        have hD : bs.getD k 0 = x := by rw [List.getD_eq_getElem?_getD, hx]; rfl
        have HO := Lib.hid (numK_or H8.out (show k < 4 by omega) hD)
        clear hc hx hD
        have hki : (k : Int) < (bs.length : Int) := by omega
        have hk4 : k = 0 ∨ k = 1 ∨ k = 2 ∨ k = 3 := by omega
        obtain ⟨N, hN⟩ : ∃ N, numK bs k = N := ⟨_, rfl⟩
        obtain ⟨M, hM⟩ : ∃ M, numK bs (k + 1) = M := ⟨_, rfl⟩
        rw [hN, hM] at HO
        have HM := Lib.hid hM
        rw [hN]
        clear hN hM
        rcases hk4 with rfl | rfl | rfl | rfl
        · have e := HO.out
          simp at e
          simp only [Nat.add_zero] at hcx
          go_wp2
          go_round
          case rel => exact ⟨1, by omega, by go_num, ret_val (by rw [← HM.out])⟩
          case measure => simp [intOf] <;> omega
        · have e := HO.out
          simp at e
          go_wp2
          go_round
          case rel => exact ⟨2, by omega, by go_num, ret_val (by rw [← HM.out])⟩
          case measure => simp [intOf] <;> omega
        · have e := HO.out
          simp at e
          go_wp2
          go_round
          case rel => exact ⟨3, by omega, by go_num, ret_val (by rw [← HM.out])⟩
          case measure => simp [intOf] <;> omega
        · have e := HO.out
          simp at e
          go_wp2
          go_round
          case rel => exact ⟨4, by omega, by go_num, ret_val (by rw [← HM.out])⟩
          case measure => simp [intOf] <;> omega
      · obtain rfl : k = bs.length := by omega
        have hki : ¬ ((bs.length : Int) < (bs.length : Int)) := by omega
        go_wp2
        go_ret
        exact ⟨ret_int (by rw [HE.out]), rfl⟩

theorem fourL_lt (n : Nat) : ∀ x ∈ fourL n, x < 256 := by
  intro x hx
  simp only [fourL, List.mem_cons, List.not_mem_nil, or_false] at hx
  omega
theorem numL_four {n : Nat} (h : n < 4294967296) : numL (fourL n) = n := by
  have := (numK_at (fourL n)).2.2.2.2
  unfold numL
  rw [this]
  show n % 256 + n / 256 % 256 * 256 + n / 65536 % 256 * 65536 + n / 16777216 % 256 * 16777216 = n
  omega

theorem mk4 (w : World) : (Instr.makeSlice 22 (.int .i64 4) (.int .i64 4)).run Try.prog w = .ok (.slice (some ⟨w.heap.size, 0, none⟩) 4 4) (w.alloc (.cells #[.int .u8 0, .int .u8 0, .int .u8 0, .int .u8 0] 5)) := by kernel_rfl
set_option maxRecDepth 100000 in
theorem four_any (n : Nat) (w : World) (h : n < 4294967296) :
    Calls Try.prog 15 #[.int .u32 (n : Int)] w fun e w' => e = .returned (.slice (some ⟨w.heap.size, 0, none⟩) 4 4) ∧ Below w.heap.size w w' ∧ Bt w' (some ⟨w.heap.size, 0, none⟩) (fourL n) ∧ w.heap.size < w'.heap.size := by
  have hmk := mk4
  go_enter Try.func15, Try.ntmps15
  go_wp2
  clear hmk
  refine wp_loop_rounds 5 ?_
  rw [rounds_succ]
  go_wp2
  rw [rounds_succ]
  go_wp2
  rw [rounds_succ]
  go_wp2
  rw [rounds_succ]
  go_wp2
  rw [rounds_succ]
  go_wp2

  go_ret
  refine ⟨rfl, (Below.refl _ _).alloc (Nat.le_refl _) _, ⟨fourL_lt n, by simp [fourL], .inr ⟨_, 0, rfl, fun j x hj => ?_⟩⟩, by simp⟩
  have hj4 : j = 0 ∨ j = 1 ∨ j = 2 ∨ j = 3 := by
    obtain ⟨h, _⟩ := List.getElem?_eq_some_iff.1 hj
    simp [fourL] at h
    omega
  rcases hj4 with rfl | rfl | rfl | rfl <;> (simp [fourL] at hj; subst hj; simp [go_sem] <;> omega)
end Go.Proofs.Ytlebgbigbiaanaa
