/- Plain arithmetic for the seat's contracts on bits: bytes as one number, a bit laid behind others. Nothing of the program stands here. -/
import Derived.WalkKit
import Derived.Laws.BitsAllLaws
namespace Go.Proofs.YtjnienlidmmhdaaGreatDoor.Bw

/-- bytes as one number, the first the highest -/
def val (bs : List Nat) : Nat := bs.foldl (fun a b => a * 256 + b) 0
theorem val_snoc (bs : List Nat) (b : Nat) : val (bs ++ [b]) = val bs * 256 + b := by
  unfold val
  rw [List.foldl_append]
  rfl
/-- n bits, as the number V, lie in these bytes, with noughts at the end -/
def Laid (bs : List Nat) (n V : Nat) : Prop :=
  bs.length = (n + 7) / 8 ∧ (∀ b ∈ bs, b < 256) ∧ val bs = V * 2 ^ (8 * bs.length - n) ∧ V < 2 ^ n

theorem Laid.none_ : Laid [] 0 0 := ⟨rfl, by simp, rfl, by decide⟩

/-- a new byte, where all bytes are full -/
theorem Laid.push {bs : List Nat} {n V : Nat} (h : Laid bs n V) (h8 : n % 8 = 0) :
    8 * bs.length = n ∧ val (bs ++ [0]) = V * 2 ^ 8 := by
  obtain ⟨h1, _, h3, _⟩ := h
  have e : 8 * bs.length = n := by omega
  refine ⟨e, ?_⟩
  rw [val_snoc, h3, show 8 * bs.length - n = 0 by omega]
  omega

theorem mod_two_pow_mul {a k : Nat} (hk : k ≤ 8) : (a * 256) % 2 ^ k = 0 := by
  have : 2 ^ k ∣ 256 := by
    have : (256 : Nat) = 2 ^ 8 := rfl
    rw [this]; exact Nat.pow_dvd_pow 2 hk
  exact Nat.mod_eq_zero_of_dvd (Nat.dvd_trans this (Nat.dvd_mul_left _ _))

/-- the bit's own place is free, and it is laid by 'or' -/
theorem lay_byte {cs : List Nat} {b V k x : Nat} (hk : k < 8) (hb : b < 256) (hv : val (cs ++ [b]) = V * 2 ^ (k + 1)) (hx : x < 2) :
    (b ||| x * 2 ^ k) = b + x * 2 ^ k ∧ b + x * 2 ^ k < 256 ∧ val (cs ++ [b + x * 2 ^ k]) = (V * 2 + x) * 2 ^ k := by
  rw [val_snoc] at hv
  have hp : 2 ^ (k + 1) = 2 ^ k * 2 := Nat.pow_succ 2 k
  have m1 : b % 2 ^ (k + 1) = 0 := by
    have h1 : (val cs * 256 + b) % 2 ^ (k + 1) = 0 := by rw [hv]; exact Nat.mul_mod_left _ _
    have h2 := mod_two_pow_mul (a := val cs) (k := k + 1) (by omega)
    rw [Nat.add_mod, h2, Nat.zero_add, Nat.mod_mod] at h1
    exact h1
  have hpos : 0 < 2 ^ k := Nat.two_pow_pos k
  have hlt : x * 2 ^ k < 2 ^ (k + 1) := by
    rw [hp]
    have : x * 2 ^ k ≤ 1 * 2 ^ k := Nat.mul_le_mul_right _ (by omega)
    omega
  refine ⟨nat_join (k + 1) b _ m1 hlt, ?_, ?_⟩
  · have hd : b / 2 ^ (k + 1) * 2 ^ (k + 1) = b := by have := Nat.div_add_mod b (2 ^ (k + 1)); rw [Nat.mul_comm] at this; omega
    have h256 : (256 : Nat) = 2 ^ (7 - k) * 2 ^ (k + 1) := by rw [← Nat.pow_add, show 7 - k + (k + 1) = 8 by omega]
    have hq : b / 2 ^ (k + 1) < 2 ^ (7 - k) := by
      rw [Nat.div_lt_iff_lt_mul (Nat.two_pow_pos _), ← h256]; exact hb
    have h3 : (b / 2 ^ (k + 1) + 1) * 2 ^ (k + 1) ≤ 2 ^ (7 - k) * 2 ^ (k + 1) := Nat.mul_le_mul_right _ hq
    rw [Nat.add_mul, Nat.one_mul, hd, ← h256] at h3
    omega
  · have ex : (V * 2 + x) * 2 ^ k = V * 2 ^ (k + 1) + x * 2 ^ k := by rw [Nat.add_mul, Nat.mul_assoc, Nat.mul_comm 2, ← hp]
    rw [val_snoc, ex, ← hv]
    omega

theorem pad_of {bs : List Nat} {n V : Nat} (h : Laid bs n V) (h8 : ¬ n % 8 = 0) : 8 * bs.length - n = 7 - n % 8 + 1 := by
  have := h.1; omega

/-- one bit more, in the last byte -/
theorem Laid.same {cs : List Nat} {b n V x : Nat} (h : Laid (cs ++ [b]) n V) (h8 : ¬ n % 8 = 0) (hx : x < 2) :
    cs.length = n / 8 ∧ b < 256 ∧ (b ||| x * 2 ^ (7 - n % 8)) = b + x * 2 ^ (7 - n % 8) ∧ b + x * 2 ^ (7 - n % 8) < 256 ∧ Laid (cs ++ [b + x * 2 ^ (7 - n % 8)]) (n + 1) (V * 2 + x) := by
  have hpad := pad_of h h8
  obtain ⟨h1, h2, h3, h4⟩ := h
  have hb : b < 256 := h2 b (by simp)
  rw [hpad] at h3
  obtain ⟨k1, k2, k3⟩ := lay_byte (k := 7 - n % 8) (by omega) hb h3 hx
  have hl : (cs ++ [b]).length = cs.length + 1 := by simp
  rw [hl] at h1
  refine ⟨by omega, hb, k1, k2, by simp; omega, ?_, ?_, ?_⟩
  · intro c hc
    rcases List.mem_append.mp hc with hc | hc
    · exact h2 c (List.mem_append.mpr (.inl hc))
    · rw [List.mem_singleton.mp hc]; exact k2
  · rw [k3]
    congr 2
    simp; omega
  · rw [Nat.pow_succ]; omega
/-- one bit more, in a new byte -/
theorem Laid.fresh {bs : List Nat} {n V x : Nat} (h : Laid bs n V) (h8 : n % 8 = 0) (hx : x < 2) :
    bs.length = n / 8 ∧ (0 ||| x * 2 ^ 7) = x * 2 ^ 7 ∧ x * 2 ^ 7 < 256 ∧ Laid (bs ++ [x * 2 ^ 7]) (n + 1) (V * 2 + x) := by
  obtain ⟨e, hv⟩ := h.push h8
  obtain ⟨h1, h2, h3, h4⟩ := h
  obtain ⟨k1, k2, k3⟩ := lay_byte (k := 7) (by omega) (by omega : 0 < 256) hv hx
  rw [Nat.zero_add] at k1 k2 k3
  refine ⟨by omega, k1, k2, by simp; omega, ?_, ?_, ?_⟩
  · intro c hc
    rcases List.mem_append.mp hc with hc | hc
    · exact h2 c hc
    · rw [List.mem_singleton.mp hc]; exact k2
  · rw [k3]
    congr 2
    simp; omega
  · rw [Nat.pow_succ]; omega
end Go.Proofs.YtjnienlidmmhdaaGreatDoor.Bw
