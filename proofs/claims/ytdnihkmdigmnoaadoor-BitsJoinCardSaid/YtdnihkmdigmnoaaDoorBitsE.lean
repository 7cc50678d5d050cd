/- The contract of End: nothing but noughts of the last byte is left. -/
import Derived.Test.YtdnihkmdigmnoaaDoorBitsJ
namespace Go.Proofs.YtdnihkmdigmnoaaDoor
open Go.RowKit

theorem last_byte {bs : List Nat} {n V : Nat} (h : Laid bs n V) (h8 : ¬ n % 8 = 0) :
    ∃ b, bs[bs.length - 1]? = some b ∧ b < 256 ∧ b * 2 ^ (n % 8) % 256 = 0 := by
  have hpad := pad_of h h8
  obtain ⟨h1, h2, h3, _⟩ := h
  have nx : bs ≠ [] := by intro e; rw [e] at h1; simp at h1; omega
  have ex := (List.dropLast_concat_getLast nx).symm
  generalize bs.dropLast = cs at ex
  generalize bs.getLast nx = c at ex
  subst ex
  refine ⟨c, by simp, h2 c (by simp), ?_⟩
  rw [hpad, val_snoc] at h3
  have hk : 7 - n % 8 + 1 ≤ 8 := by omega
  have m2 := mod_two_pow_mul (a := val cs) hk
  have m1 : (val cs * 256 + c) % 2 ^ (7 - n % 8 + 1) = 0 := by rw [h3]; exact Nat.mul_mod_left _ _
  rw [Nat.add_mod, m2, Nat.zero_add, Nat.mod_mod] at m1
  have hd : c = c / 2 ^ (7 - n % 8 + 1) * 2 ^ (7 - n % 8 + 1) := by have := Nat.div_add_mod c (2 ^ (7 - n % 8 + 1)); rw [Nat.mul_comm] at this; omega
  have h256 : (2 : Nat) ^ (7 - n % 8 + 1) * 2 ^ (n % 8) = 256 := by rw [← Nat.pow_add, show 7 - n % 8 + 1 + n % 8 = 8 by omega]
  obtain ⟨K, hK⟩ : ∃ K, c / 2 ^ (7 - n % 8 + 1) = K := ⟨_, rfl⟩
  rw [hK] at hd
  have e1 : c * 2 ^ (n % 8) = K * 256 := by
    calc c * 2 ^ (n % 8) = K * 2 ^ (7 - n % 8 + 1) * 2 ^ (n % 8) := congrArg (· * 2 ^ (n % 8)) hd
      _ = K * (2 ^ (7 - n % 8 + 1) * 2 ^ (n % 8)) := Nat.mul_assoc _ _ _
      _ = K * 256 := congrArg (K * ·) h256
  rw [e1]
  exact Nat.mul_mod_left _ _

theorem end_any (q r l c n V : Nat) (bs : List Nat) (w : World) (h : Rd w q r l c bs n) (hl : Laid bs n V) (h0 : 0 < l) :
    Calls Tryd.prog 13 #[.pointer (some ⟨q, 0, none⟩)] w fun e w' => e = .returned (.int .i64 0) ∧ Below w.heap.size w w' := by
  have H := Lib.hid h
  have hlen := hl.1
  have hbl := h.bytes.1
  have tl := h.tl
  have lb := h.lb
  have c0 := h.c0
  obtain ⟨D, hD⟩ : ∃ D, (l : Int) * 8 - (n : Int) = D := ⟨_, rfl⟩
  have LC : ∀ w, Rd w q r l c bs n → Calls Tryd.prog 12 #[.pointer (some ⟨q, 0, none⟩)] w fun e w' => e = .returned (.int .i64 D) ∧ ∃ n, w' = w.drewN n := fun w h => by
    rw [← hD]; exact left_any _ _ _ _ _ _ _ h
  have HLC := Lib.hid LC
  clear LC
  by_cases h8 : n % 8 = 0
  · have d0 : D < 8 := by omega
    have d00 : D ≤ 0 := by omega
    have d1 : decide (0 < D) = false := by simp; omega
    clear h hl hlen hbl h8 hD
    go_enter Tryd.func13, Tryd.ntmps13
    go_wp2_with fail
    refine (err_any _ _ _ _ _ _ _ H.out).mono ?_
    rintro e w' ⟨rfl, rfl⟩
    go_wp2_with fail
    refine (HLC.out _ H.out).mono ?_
    rintro e w' ⟨rfl, n0, rfl⟩
    go_wp2_with fail
    go_quiet (fail)
    go_wp2_with fail
    go_ret
    exact ⟨rfl, below_drewN (below_drewN (Below.refl _ _) _) _⟩
  · obtain ⟨b, hb, hb256, hz⟩ := last_byte hl h8
    have kb := h.bytes.2.2 _ _ hb
    rw [← hbl] at kb
    have d0 : D < 8 := by omega
    have d1 : 0 < D := by omega
    have d2 : decide (0 < D) = true := by simpa using d1
    have d3 : (0 : Int) ≤ (l : Int) - 1 := by omega
    have d33 : (1 : Int) ≤ (l : Int) := by omega
    have d4 : (l : Int) - 1 < (l : Int) := by omega
    have d5 : ((l : Int) - 1).toNat = l - 1 := by omega
    have d6 : IntKind.i64.wrap ((l : Int) - 1) = (l : Int) - 1 := IntWalk.i64_in _ (by omega)
    have d7 : IntKind.i64.wrap (8 - D) = 8 - D := IntWalk.i64_in _ (by omega)
    have d8 : (8 - D).toNat = n % 8 := by omega
    have d9 : (0 : Int) ≤ 8 - D := by omega
    have hz' : (b : Int) * 2 ^ (n % 8) % 256 = 0 := by
      have e : (b : Int) * 2 ^ (n % 8) = ((b * 2 ^ (n % 8) : Nat) : Int) := by simp
      rw [e]; omega
    clear h hl hlen hbl h8 hb hz hD
    go_enter Tryd.func13, Tryd.ntmps13
    go_wp2_with fail
    refine (err_any _ _ _ _ _ _ _ H.out).mono ?_
    rintro e w' ⟨rfl, rfl⟩
    go_wp2_with fail
    refine (HLC.out _ H.out).mono ?_
    rintro e w' ⟨rfl, n0, rfl⟩
    go_wp2_with fail
    go_quiet (fail)
    go_wp2_with fail
    go_ret
    exact ⟨rfl, below_drewN (below_drewN (Below.refl _ _) _) _⟩
end Go.Proofs.YtdnihkmdigmnoaaDoor
