/- The document's Count, Int and Text: what text each returns. -/
import Derived.Test.YtjnienlidmmhdaaGreatDoorTkU
namespace Go.Proofs.YtjnienlidmmhdaaGreatDoor.Tk
open Go.RowKit
set_option linter.unusedVariables false

/-- a count's bits -/
def codeL (n : Nat) : List Bool := (List.replicate (cls n) true ++ (if cls n < 6 then [false] else [])) ++ bitsL (clw (cls n)) n
theorem codeL_length (n : Nat) : (codeL n).length ≤ 71 := by
  have h1 := cls_le n
  have h2 := clw_le (cls n)
  unfold codeL
  simp only [List.length_append, List.length_replicate, bitsL_length]
  split <;> simp <;> omega
def CtRel (n : Nat) (i s : Value) : Prop := ∃ j : Nat, j ≤ cls n ∧ i = .int .i64 (j : Int) ∧ s = .string (T (List.replicate j true))

set_option maxHeartbeats 1000000 in
theorem refcount_any (n : Nat) (w : World) (hn : n ≤ 18446744073709551615) :
    Calls Tryz.prog 62 #[.int .u64 (n : Int)] w fun e w' => e = .returned (.string (T (codeL n))) ∧ Below w.heap.size w w' := by
  obtain ⟨k, hk⟩ : ∃ k, cls n = k := ⟨_, rfl⟩
  have HK := Lib.hid hk
  have k6 : k ≤ 6 := by rw [← hk]; exact cls_le n
  go_enter Tryz.func62, Tryz.ntmps62
  go_wp2_with fail
  refine (refclass_any n _ hn).mono ?_
  rintro e w1 ⟨rfl, hb⟩
  have HB := Lib.hid hb
  rw [hk]
  clear hb hk
  go_wp2_with fail
  go_loop [6, 5] (fun i s => CtRel n i s) (fun i _ => 6 - (intOf i).toNat)
  case atStart => exact ⟨0, by omega, rfl, rfl⟩
  case round =>
    obtain ⟨j, hj, rfl, rfl⟩ := hrel
    rw [HK.out] at hj
    by_cases hlt : j < k
    · have hadd := add_T (P := Tryz.prog) (List.replicate j true) [true] (by simp; omega)
      rw [← T_true] at hadd
      have R : Hid (CtRel n (.int .i64 ((j : Int) + 1)) (.string (T (List.replicate j true ++ [true])))) := ⟨j + 1, by rw [HK.out]; omega, by go_num, by rw [← List.replicate_succ']⟩
      go_wp2_with fail
      go_round
      case rel => exact R.out
      case measure => simp [intOf]; omega
    · obtain rfl : j = k := by omega
      have hclw := clw_le j
      by_cases h6 : j < 6
      · have hadd := add_T (P := Tryz.prog) (List.replicate j true) [false] (by simp; omega)
        rw [← T_false] at hadd
        have hadd2 := add_T (P := Tryz.prog) (List.replicate j true ++ [false]) (bitsL (clw j) n) (by simp [bitsL_length]; omega)
        have R := Lib.hid (show codeL n = List.replicate j true ++ [false] ++ bitsL (clw j) n by unfold codeL; rw [HK.out, if_pos h6])
        go_wp2_with fail
        refine (rput_any n (clw j) _ hclw hn).mono ?_
        rintro e w2 ⟨rfl, rfl⟩
        go_wp2_with fail
        go_ret
        exact ⟨by rw [R.out, List.append_assoc]; rfl, HB.out⟩
      · have hadd2 := add_T (P := Tryz.prog) (List.replicate j true) (bitsL (clw j) n) (by simp [bitsL_length]; omega)
        have R := Lib.hid (show codeL n = List.replicate j true ++ bitsL (clw j) n by unfold codeL; rw [HK.out, if_neg h6, List.append_nil])
        go_wp2_with fail
        refine (rput_any n (clw j) _ hclw hn).mono ?_
        rintro e w2 ⟨rfl, rfl⟩
        go_wp2_with fail
        go_ret
        exact ⟨by rw [R.out]; rfl, HB.out⟩

theorem zig_nat {n : Int} (h1 : -9223372036854775808 ≤ n) (h2 : n ≤ 9223372036854775807) : ∃ k : Nat, zigv n = (k : Int) ∧ k ≤ 18446744073709551615 := by
  have := zig_bd h1 h2
  exact ⟨(zigv n).toNat, by omega, by omega⟩
theorem refint_any (n : Int) (w : World) (h1 : -9223372036854775808 ≤ n) (h2 : n ≤ 9223372036854775807) :
    Calls Tryz.prog 59 #[.int .i64 n] w fun e w' => e = .returned (.string (T (codeL (zigv n).toNat))) ∧ Below w.heap.size w w' := by
  obtain ⟨k, hk, k64⟩ := zig_nat h1 h2
  have HK := Lib.hid hk
  rw [hk, Int.toNat_natCast]
  clear hk
  go_enter Tryz.func59, Tryz.ntmps59
  go_wp2_with fail
  refine (refzig_any n _ h1 h2).mono ?_
  rintro e w1 ⟨rfl, rfl⟩
  rw [HK.out]
  go_wp2_with fail
  refine (refcount_any k _ k64).mono ?_
  rintro e w2 ⟨rfl, hb⟩
  have HB := Lib.hid hb
  clear hb
  go_wp2_with fail
  go_ret
  exact ⟨rfl, HB.out⟩

/-- the bits of bytes -/
def textL (bs : List Nat) : List Bool := bs.flatMap (bitsL 8)
theorem textL_length (bs : List Nat) : (textL bs).length = 8 * bs.length := by
  unfold textL
  induction bs with
  | nil => rfl
  | cons b bs ih => simp only [List.flatMap_cons, List.length_append, ih, bitsL_length, List.length_cons]; omega
theorem textL_snoc (bs : List Nat) (b : Nat) : textL (bs ++ [b]) = textL bs ++ bitsL 8 b := by unfold textL; simp
def TxRel (bs : List Nat) (i s : Value) : Prop := ∃ j : Nat, j ≤ bs.length ∧ i = .int .i64 (j : Int) ∧ s = .string (T (textL (bs.take j)))

set_option maxHeartbeats 1000000 in
theorem reftext_any (A : Option Addr) (n c : Nat) (bs : List Nat) (w : World) (h : Bt w A bs) (hn : n = bs.length) (hl : bs.length ≤ 1000000) :
    Calls Tryz.prog 155 #[.slice A n c] w fun e w' => e = .returned (.string (T (textL bs))) ∧ w = w' := by
  have H := Lib.hid h
  have HN := Lib.hid hn
  have hnl : n ≤ 1000000 := by omega
  clear h hn
  go_enter Tryz.func155, Tryz.ntmps155
  go_wp2_with fail
  go_loop [4, 3] (fun i s => TxRel bs i s) (fun i _ => n - (intOf i).toNat)
  case atStart => exact ⟨0, by omega, rfl, rfl⟩
  case round =>
    obtain ⟨j, hj, rfl, rfl⟩ := hrel
    rw [← HN.out] at hj
    by_cases hlt : j < n
    · obtain ⟨b, off, rfl, hc⟩ := H.out.some_ (by rw [← HN.out]; omega)
      obtain ⟨x, hx⟩ := getElem?_lt (l := bs) (k := j) (by rw [← HN.out]; exact hlt)
      have hxc := hc j x hx
      have hx8 : x < 256 := H.out.1 x (mem_of_at hx)
      have HT := Lib.hid (show textL (bs.take (j + 1)) = textL (bs.take j) ++ bitsL 8 x by rw [take_snoc bs j x hx, textL_snoc])
      have hlen : (textL (bs.take j)).length = 8 * j := by rw [textL_length, List.length_take, ← HN.out, Nat.min_eq_left hj]
      have hadd := add_T (P := Tryz.prog) (textL (bs.take j)) (bitsL 8 x) (by rw [hlen, bitsL_length]; omega)
      have hd : (j : Int) < (n : Int) := by omega
      have R : Hid (TxRel bs (.int .i64 ((j : Int) + 1)) (.string (T (textL (bs.take j) ++ bitsL 8 x)))) := ⟨j + 1, by rw [← HN.out]; omega, by go_num, by rw [HT.out]⟩
      clear hx hc hlen
      go_wp2_with fail
      refine (rput_any x 8 _ (by decide) (by omega)).mono ?_
      rintro e w2 ⟨rfl, rfl⟩
      go_wp2_with fail
      go_round
      case rel => exact R.out
      case measure => simp [intOf]; omega
    · obtain rfl : j = n := by omega
      have HE := Lib.hid (show bs.take j = bs by rw [HN.out]; exact List.take_length)
      go_wp2_with fail
      go_ret
      exact ⟨by rw [HE.out]; rfl, rfl⟩
end Go.Proofs.YtjnienlidmmhdaaGreatDoor.Tk
