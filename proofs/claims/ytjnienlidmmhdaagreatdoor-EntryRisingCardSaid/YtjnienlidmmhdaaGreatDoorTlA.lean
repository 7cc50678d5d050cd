/- Bits as lists: what a writer has laid, counts, sets of ranges as lists of bits, and how they are read again. Nothing of the program stands here. -/
import Derived.Test.YtjnienlidmmhdaaGreatDoorTkP
import Derived.Test.YtjnienlidmmhdaaGreatDoorBitsL
namespace Go.Proofs.YtjnienlidmmhdaaGreatDoor.Tl
open Go.RowKit
set_option linter.unusedVariables false

/-- bits as a number -/
def valB (l : List Bool) : Nat := l.foldl (fun a b => a * 2 + b.toNat) 0
theorem valB_snoc (l : List Bool) (b : Bool) : valB (l ++ [b]) = valB l * 2 + b.toNat := by
  unfold valB
  rw [List.foldl_append]
  rfl
theorem valB_append (l : List Bool) : ∀ m : List Bool, valB (l ++ m) = valB l * 2 ^ m.length + valB m :=
  Tk.snoc_ind (by simp [valB]) (fun m x ih => by
    rw [← List.append_assoc, valB_snoc, valB_snoc, ih, List.length_append, List.length_singleton, Nat.pow_succ, Nat.add_mul, Nat.mul_assoc]
    omega)
theorem valB_lt : ∀ l : List Bool, valB l < 2 ^ l.length :=
  Tk.snoc_ind (by simp [valB]) (fun l x ih => by
    rw [valB_snoc, List.length_append, List.length_singleton, Nat.pow_succ]
    have : x.toNat ≤ 1 := by cases x <;> simp
    omega)
theorem bitsL_valB : ∀ l : List Bool, Tk.bitsL l.length (valB l) = l :=
  Tk.snoc_ind rfl (fun l x ih => by
    rw [valB_snoc, List.length_append, List.length_singleton, Tk.bitsL_split]
    have e : (valB l * 2 + x.toNat) / 2 ^ 1 = valB l := by cases x <;> simp <;> omega
    rw [e, ih]
    congr 1
    simp only [Tk.bitsL]
    cases x <;> simp <;> omega)
theorem valB_bitsL : ∀ k n : Nat, valB (Tk.bitsL k n) = n % 2 ^ k
  | 0, n => by simp [Tk.bitsL, valB, Nat.mod_one]
  | k + 1, n => by
    have ih := valB_bitsL k n
    simp only [Tk.bitsL]
    have e := valB_append [n / 2 ^ k % 2 == 1] (Tk.bitsL k n)
    rw [List.singleton_append] at e
    rw [e, ih, Tk.bitsL_length, Nat.mod_pow_succ]
    have h2 : valB [n / 2 ^ k % 2 == 1] = n / 2 ^ k % 2 := by
      unfold valB
      simp only [List.foldl_cons, List.foldl_nil, Nat.zero_mul, Nat.zero_add]
      rcases Nat.mod_two_eq_zero_or_one (n / 2 ^ k) with h | h <;> rw [h] <;> rfl
    rw [h2, Nat.mul_comm, Nat.add_comm]

theorem clw_0 : Tk.clw 0 = 0 := rfl
theorem codeL_parts (x : Nat) (hx : x ≤ 18446744073709551615) : (Tk.codeL x).length = Bw.codeLen x ∧ valB (Tk.codeL x) = Bw.codeVal x ∧ x < 2 ^ Tk.clw (Tk.cls x) := by
  have key : ∀ (c L : Nat) (hd : List Bool) (v : Nat), Tk.cls x = c → Tk.clw c = L → List.replicate c true ++ (if c < 6 then [false] else []) = hd → Bw.codeLen x = hd.length + L → Bw.codeVal x = valB hd * 2 ^ L + x → x < 2 ^ L →
      (Tk.codeL x).length = Bw.codeLen x ∧ valB (Tk.codeL x) = Bw.codeVal x ∧ x < 2 ^ Tk.clw (Tk.cls x) := by
    intro c L hd v h1 h2 h3 h4 h5 h6
    unfold Tk.codeL
    rw [h1, h2, h3]
    refine ⟨?_, ?_, h6⟩
    · rw [List.length_append, Tk.bitsL_length, h4]
    · rw [valB_append, valB_bitsL, Tk.bitsL_length, Nat.mod_eq_of_lt h6, h5]
  rcases Bw.code_cases x with ⟨h0, h1, e, f⟩ | ⟨h0, h1, e, f⟩ | ⟨h0, h1, e, f⟩ | ⟨h0, h1, e, f⟩ | ⟨h0, h1, e, f⟩ | ⟨h0, h1, e, f⟩ | ⟨h0, e, f⟩
  · exact key 0 0 [false] 0 (by unfold Tk.cls; rw [if_pos h1]) rfl rfl (by rw [e]; rfl) (by rw [f]; simp [valB]) (by simpa using h1)
  · exact key 1 3 [true, false] 0 (by unfold Tk.cls; rw [if_neg (by omega), if_pos h1]) rfl rfl (by rw [e]; rfl) (by rw [f]; simp [valB]) (by simpa using h1)
  · exact key 2 7 [true, true, false] 0 (by unfold Tk.cls; rw [if_neg (by omega), if_neg (by omega), if_pos h1]) rfl rfl (by rw [e]; rfl) (by rw [f]; simp [valB]) (by simpa using h1)
  · exact key 3 12 [true, true, true, false] 0 (by unfold Tk.cls; rw [if_neg (by omega), if_neg (by omega), if_neg (by omega), if_pos h1]) rfl rfl (by rw [e]; rfl) (by rw [f]; simp [valB]) (by simpa using h1)
  · exact key 4 20 [true, true, true, true, false] 0 (by unfold Tk.cls; rw [if_neg (by omega), if_neg (by omega), if_neg (by omega), if_neg (by omega), if_pos h1]) rfl rfl (by rw [e]; rfl) (by rw [f]; simp [valB]) (by simpa using h1)
  · exact key 5 32 [true, true, true, true, true, false] 0 (by unfold Tk.cls; rw [if_neg (by omega), if_neg (by omega), if_neg (by omega), if_neg (by omega), if_neg (by omega), if_pos h1]) rfl rfl (by rw [e]; rfl) (by rw [f]; simp [valB]) (by simpa using h1)
  · exact key 6 64 [true, true, true, true, true, true] 0 (by unfold Tk.cls; rw [if_neg (by omega), if_neg (by omega), if_neg (by omega), if_neg (by omega), if_neg (by omega), if_neg (by omega)]) rfl rfl (by rw [e]; rfl) (by rw [f]; simp [valB]) (by simp; omega)
theorem codeL_pos (x : Nat) (hx : x ≤ 18446744073709551615) : 0 < (Tk.codeL x).length := by
  rw [(codeL_parts x hx).1]
  unfold Bw.codeLen
  (repeat' split) <;> omega

/-- these bits lie in these bytes, with noughts at the end -/
def LaidL (bs : List Nat) (l : List Bool) : Prop := Bw.Laid bs l.length (valB l)
theorem LaidL.nil : LaidL [] [] := Bw.Laid.none_
theorem LaidL.inj {a b : List Nat} {l : List Bool} (h : LaidL a l) (k : LaidL b l) : a = b := Bw.Laid.same_bytes h k
theorem val_eq (bs : List Nat) : Bw.val bs = Tk.val bs := rfl
theorem LaidL.sub {bs : List Nat} {l : List Bool} (h : LaidL bs l) : l.length ≤ 8 * bs.length ∧ 8 * bs.length < l.length + 8 ∧ Tk.sub bs 0 l.length = l := by
  obtain ⟨h1, h2, h3, h4⟩ := h
  obtain ⟨r, hr⟩ : ∃ r, 8 * bs.length = l.length + r := ⟨8 * bs.length - l.length, by omega⟩
  refine ⟨by omega, by omega, ?_⟩
  unfold Tk.sub
  rw [Tk.text_val bs h2, ← val_eq, h3, hr, Tk.bitsL_split, show l.length + r - l.length = r by omega, Nat.mul_div_cancel _ (Nat.two_pow_pos r), List.drop_zero, Nat.sub_zero, List.take_append_of_le_length (by rw [Tk.bitsL_length]; omega), List.take_of_length_le (by rw [Tk.bitsL_length]; omega), bitsL_valB]
theorem LaidL.step {bs : List Nat} {l m : List Bool} (h : Bw.Laid bs (l.length + m.length) (valB l * 2 ^ m.length + valB m)) : LaidL bs (l ++ m) := by
  unfold LaidL
  rw [List.length_append, valB_append]
  exact h

/-! Reading again. -/
theorem sub_length {bs : List Nat} {t u : Nat} (h1 : t ≤ u) (h2 : u ≤ 8 * bs.length) : (Tk.sub bs t u).length = u - t := by
  unfold Tk.sub
  rw [List.length_take, List.length_drop, Tk.textL_length]
  omega
theorem sub_cut {bs : List Nat} {t : Nat} {a b : List Bool} (hl : t + (a ++ b).length ≤ 8 * bs.length) (h : Tk.sub bs t (t + (a ++ b).length) = a ++ b) :
    Tk.sub bs t (t + a.length) = a ∧ Tk.sub bs (t + a.length) (t + a.length + b.length) = b := by
  rw [List.length_append] at hl h
  rw [Tk.sub_append bs (Nat.le_add_right t a.length) (show t + a.length ≤ t + (a.length + b.length) by omega)] at h
  have := List.append_inj h (by rw [sub_length (by omega) (by omega)]; omega)
  rw [show t + a.length + b.length = t + (a.length + b.length) by omega]
  exact this
theorem part_sub {bs : List Nat} (hb : ∀ b ∈ bs, b < 256) {t k : Nat} (h : t + k ≤ 8 * bs.length) : Tk.part bs t k = valB (Tk.sub bs t (t + k)) := by
  rw [Tk.sub_part hb t k h, valB_bitsL, Nat.mod_eq_of_lt (Tk.part_lt bs t k)]
theorem getF_back {bs : List Nat} (hb : ∀ b ∈ bs, b < 256) {t : Nat} {l : List Bool} (hl : t + l.length ≤ 8 * bs.length) (h : Tk.sub bs t (t + l.length) = l) : Tk.getF bs l.length (t, 0) = (valB l, (t + l.length, 0)) := by
  unfold Tk.getF
  rw [if_neg (by simp), if_pos hl, part_sub hb hl, h]
theorem clsF_back {bs : List Nat} (hb : ∀ b ∈ bs, b < 256) (c : Nat) (hc : c ≤ 6) : ∀ (n i t : Nat), i + n = 6 → i ≤ c →
    t + (List.replicate (c - i) true ++ (if c < 6 then [false] else [])).length ≤ 8 * bs.length →
    Tk.sub bs t (t + (List.replicate (c - i) true ++ (if c < 6 then [false] else [])).length) = List.replicate (c - i) true ++ (if c < 6 then [false] else []) →
    Tk.clsF bs n i (t, 0) = (c, (t + (List.replicate (c - i) true ++ (if c < 6 then [false] else [])).length, 0))
  | 0, i, t, h6, hi, hl, h => by
    obtain rfl : i = 6 := by omega
    obtain rfl : c = 6 := by omega
    simp [Tk.clsF]
  | n + 1, i, t, h6, hi, hl, h => by
    by_cases he : c = i
    · subst he
      rw [if_pos (by omega), Nat.sub_self, List.replicate_zero, List.nil_append] at hl h ⊢
      have g := getF_back hb hl h
      unfold Tk.clsF Tk.bitF
      rw [show ([false] : List Bool).length = 1 from rfl] at g ⊢
      rw [g]
      rfl
    · have e : c - i = (c - (i + 1)) + 1 := by omega
      rw [e, List.replicate_succ, List.cons_append, ← List.singleton_append] at hl h ⊢
      obtain ⟨h1, h2⟩ := sub_cut hl h
      have g := getF_back hb (l := [true]) (by rw [List.length_append] at hl; omega) h1
      have ih := clsF_back hb c hc n (i + 1) (t + 1) (by omega) (by omega) (by rw [List.length_append] at hl; simp only [List.length_singleton] at hl; omega) h2
      unfold Tk.clsF Tk.bitF
      rw [show ([true] : List Bool).length = 1 from rfl] at g
      rw [g]
      rw [if_pos (by rfl), ih]
      exact congrArg (fun k => (c, (k, (0 : Int)))) (by simp only [List.length_append, List.length_singleton]; omega)
theorem countF_back {bs : List Nat} (hb : ∀ b ∈ bs, b < 256) {t x : Nat} (hx : x ≤ 18446744073709551615) (hl : t + (Tk.codeL x).length ≤ 8 * bs.length) (h : Tk.sub bs t (t + (Tk.codeL x).length) = Tk.codeL x) :
    Tk.countF bs (t, 0) = (x, (t + (Tk.codeL x).length, 0)) := by
  have hlt := (codeL_parts x hx).2.2
  obtain ⟨H, hH⟩ : ∃ H, List.replicate (Tk.cls x) true ++ (if Tk.cls x < 6 then [false] else []) = H := ⟨_, rfl⟩
  unfold Tk.codeL at hl h ⊢
  rw [hH] at hl h ⊢
  obtain ⟨h1, h2⟩ := sub_cut hl h
  rw [List.length_append, Tk.bitsL_length] at hl
  have e1 := clsF_back hb (Tk.cls x) (Tk.cls_le x) 6 0 t rfl (Nat.zero_le _) (by rw [Nat.sub_zero, hH]; omega) (by rw [Nat.sub_zero, hH]; exact h1)
  rw [Nat.sub_zero, hH] at e1
  rw [Tk.bitsL_length] at h2
  have e2 : Tk.getF bs (Tk.clw (Tk.cls x)) (t + H.length, 0) = (x, (t + H.length + Tk.clw (Tk.cls x), 0)) := by
    have g := getF_back hb (l := Tk.bitsL (Tk.clw (Tk.cls x)) x) (t := t + H.length) (by rw [Tk.bitsL_length]; omega) (by rw [Tk.bitsL_length]; exact h2)
    rw [Tk.bitsL_length, valB_bitsL, Nat.mod_eq_of_lt hlt] at g
    exact g
  unfold Tk.countF
  rw [if_neg (by simp), e1]
  simp only
  rw [e2]
  simp only
  rw [if_neg (by simp), if_neg (by simp), List.length_append, Tk.bitsL_length, Nat.add_assoc]
end Go.Proofs.YtjnienlidmmhdaaGreatDoor.Tl
