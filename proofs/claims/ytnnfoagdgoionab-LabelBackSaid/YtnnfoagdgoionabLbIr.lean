/- IndexRune of a rune that is no ASCII byte, in a text of ASCII bytes: there is none. -/
import Derived.Test.YtnnfoagdgoionabLbIx
import Derived.Laws.Runes
namespace Go.Proofs.Ytnnfoagdgoionab
open Go.RowKit
set_option linter.unusedVariables false

def Asc (s : ByteArray) : Prop := ∀ b ∈ s.data.toList, b.toNat < 128
theorem asc_at {s : ByteArray} (h : Asc s) (i : Nat) (hi : i < s.size) : s[i].toNat < 128 := h _ (mem_of_at (data_at s i hi))
theorem ib_asc (s : ByteArray) (hs : Asc s) (k : Nat) (c : UInt8) (w : World) (hc : 128 ≤ c.toNat) : Calls Try.prog 85 #[.string (s.extract k s.size), .int .u8 (c.toNat : Int)] w fun e w' => e = .returned (.int .i64 (-1)) ∧ w = w' :=
  (Try.strings_IndexByte _ _ w).mono fun e w' ⟨he, hw⟩ => ⟨by
    rw [he, show ((c.toNat : Int)).toNat.toUInt8 = c by simp]
    rw [indexByte_none _ _ (fun b hb hbc => by
      have := hs b (mem_extract hb)
      rw [hbc] at this
      omega)], hw.symm⟩
theorem vr_is (r : Int) (w : World) (z : Bool) (h : Lib.validRune r = z) : Calls Try.prog 86 #[.int .i32 r] w fun e w' => e = .returned (.bool z) ∧ w = w' :=
  (Try.utf8_ValidRune r w).mono fun e w' ⟨he, hw⟩ => ⟨by rw [he, h], hw.symm⟩
def RuneP (w : World) (e : Ending) (w' : World) : Prop := e = .returned (.int .i64 (-1)) ∧ Below w.heap.size w w'
set_option maxRecDepth 200000 in
set_option maxHeartbeats 4000000 in
theorem rune_err (s : ByteArray) (w : World) (hs : Asc s) : Calls Try.prog 80 #[.string s, .int .i32 65533] w (RuneP w) := by
  have HS := Lib.hid hs
  clear hs
  go_enter Try.func80, Try.ntmps80
  go_wp2_with fail
  go_loopg [5, 6] s.size (fun g _ _ wx => ∃ i : Nat, i + g = s.size ∧ wx = w.iter s i)
  case atStart => exact ⟨0, by omega, rfl⟩
  case round =>
    obtain ⟨i, hig, rfl⟩ := hrel
    cases gk with
    | zero =>
      obtain rfl : i = s.size := by omega
      have hnx := run_next_end (P := Try.prog) w s s.size
      go_wp2_with fail
      go_ret
      exact ⟨rfl, (Below.refl _ _).alloc (Nat.le_refl _) _⟩
    | succ g =>
      have hi : i < s.size := by omega
      obtain ⟨x, hx⟩ : ∃ x : UInt8, s[i]'hi = x := ⟨_, rfl⟩
      have hx128 : x.toNat < 128 := hx ▸ asc_at HS.out i hi
      have hnx := fun ty => run_next_ascii (P := Try.prog) w s i ty hi (by rw [hx]; exact hx128)
      rw [hx] at hnx
      have hne : ((x.toNat : Int) == 65533) = false := by simp; omega
      clear hx
      go_wp2_with fail
      go_roundg g
      case measure => omega
      case rel => exact ⟨i + 1, by omega, rfl⟩
set_option maxRecDepth 200000 in
set_option maxHeartbeats 8000000 in
theorem rune_high (s : ByteArray) (h4 : 4 ≤ s.size) (hs : Asc s) (hsz9 : s.size ≤ 4000) (r : Int) (h128 : 128 ≤ r) (hmax : r ≤ 2147483647) (hne3 : r ≠ 65533) (w : World) : Calls Try.prog 80 #[.string s, .int .i32 r] w (RuneP w) := by
  have HS := Lib.hid hs
  have hr1 : ¬ (r < 128) := by omega
  have hr2 : (r == 65533) = false := by simp [hne3]
  clear hs
  by_cases hv : Lib.validRune r = true
  · have HV := Lib.hid hv
    obtain ⟨hz2, hz4, hb⟩ := encode_facts r (by rw [validRune_eq]; exact hv) h128
    obtain ⟨rs, hrs⟩ : ∃ rs, Utf8.encode r = rs := ⟨_, rfl⟩
    rw [hrs] at hz2 hz4 hb
    have hcv : ∀ W : World, (convert 21 9 (.int .i32 r)).run Try.prog W = .ok (.string rs) W := fun W => by rw [← hrs]; exact run_convert_int_string W _ _ _ r (by rw [Try.underlying21]; rfl) Try.underlying9
    clear hv hne3
    rcases (show rs.size = 2 ∨ rs.size = 3 ∨ rs.size = 4 by omega) with hsz | hsz | hsz
    · have hbi : 128 ≤ rs[1].toNat := by
        have h1 := hb (by omega)
        have e : rs.size - 1 = 1 := by omega
        simp only [e] at h1
        exact h1
      have hbl := byte_lt rs[1]
      have hst : s[1].toNat < 128 := asc_at HS.out 1 (by omega)
      have hne : ((s[1].toNat : Int) != (rs[1].toNat : Int)) = true := by simp; omega
      have hs1 : (1 : Int) < (s.size : Int) := by omega
      have hs2 : (2 : Int) ≤ (s.size : Int) := by omega
      have HB := Lib.hid hbi
      clear hb hbi hst
      go_enter Try.func80, Try.ntmps80
      go_wp2_with fail
      refine (vr_is _ _ true HV.out).mono ?_
      rintro e w' ⟨rfl, rfl⟩
      go_wp2_with fail
      go_step3
      go_wp2_with fail
      refine wp_loop_rounds 1 ?_
      rw [rounds_succ]
      go_wp2_with fail
      go_step3
      go_wp2_with fail
      go_quiet (fail)
      go_wp2_with fail
      go_quiet ((go_at_call 85; exact stays rfl (ib_asc s HS.out 2 rs[1] _ HB.out)))
      go_wp2_with fail
      try rw [Exit.noGoto_ret]
      go_ret
      exact ⟨rfl, below_drewN (Below.refl _ _) _⟩
    · have hbi : 128 ≤ rs[2].toNat := by
        have h1 := hb (by omega)
        have e : rs.size - 1 = 2 := by omega
        simp only [e] at h1
        exact h1
      have hbl := byte_lt rs[2]
      have hst : s[2].toNat < 128 := asc_at HS.out 2 (by omega)
      have hne : ((s[2].toNat : Int) != (rs[2].toNat : Int)) = true := by simp; omega
      have hs1 : (2 : Int) < (s.size : Int) := by omega
      have hs2 : (3 : Int) ≤ (s.size : Int) := by omega
      have HB := Lib.hid hbi
      clear hb hbi hst
      go_enter Try.func80, Try.ntmps80
      go_wp2_with fail
      refine (vr_is _ _ true HV.out).mono ?_
      rintro e w' ⟨rfl, rfl⟩
      go_wp2_with fail
      go_step3
      go_wp2_with fail
      refine wp_loop_rounds 1 ?_
      rw [rounds_succ]
      go_wp2_with fail
      go_step3
      go_wp2_with fail
      go_quiet (fail)
      go_wp2_with fail
      go_quiet ((go_at_call 85; exact stays rfl (ib_asc s HS.out 3 rs[2] _ HB.out)))
      go_wp2_with fail
      try rw [Exit.noGoto_ret]
      go_ret
      exact ⟨rfl, below_drewN (Below.refl _ _) _⟩
    · have hbi : 128 ≤ rs[3].toNat := by
        have h1 := hb (by omega)
        have e : rs.size - 1 = 3 := by omega
        simp only [e] at h1
        exact h1
      have hbl := byte_lt rs[3]
      have hst : s[3].toNat < 128 := asc_at HS.out 3 (by omega)
      have hne : ((s[3].toNat : Int) != (rs[3].toNat : Int)) = true := by simp; omega
      have hs1 : (3 : Int) < (s.size : Int) := by omega
      have hs2 : (4 : Int) ≤ (s.size : Int) := by omega
      have HB := Lib.hid hbi
      clear hb hbi hst
      go_enter Try.func80, Try.ntmps80
      go_wp2_with fail
      refine (vr_is _ _ true HV.out).mono ?_
      rintro e w' ⟨rfl, rfl⟩
      go_wp2_with fail
      go_step3
      go_wp2_with fail
      refine wp_loop_rounds 1 ?_
      rw [rounds_succ]
      go_wp2_with fail
      go_step3
      go_wp2_with fail
      go_quiet (fail)
      go_wp2_with fail
      go_quiet ((go_at_call 85; exact stays rfl (ib_asc s HS.out 4 rs[3] _ HB.out)))
      go_wp2_with fail
      try rw [Exit.noGoto_ret]
      go_ret
      exact ⟨rfl, below_drewN (Below.refl _ _) _⟩
  · have hv' : Lib.validRune r = false := by simpa using hv
    have HV := Lib.hid hv'
    clear hv hv' hne3
    go_enter Try.func80, Try.ntmps80
    go_wp2_with fail
    refine (vr_is _ _ false HV.out).mono ?_
    rintro e w' ⟨rfl, rfl⟩
    go_wp2_with fail
    go_ret
    exact ⟨rfl, Below.refl _ _⟩
end Go.Proofs.Ytnnfoagdgoionab
