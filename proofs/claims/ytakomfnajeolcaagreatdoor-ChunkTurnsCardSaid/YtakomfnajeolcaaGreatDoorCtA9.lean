import Derived.Test.YtakomfnajeolcaaGreatDoorCtA8
set_option linter.unusedVariables false
/- What writers keep beside each other; the law's own example; the law BitsShort's walk. -/
namespace Go.Proofs.YtakomfnajeolcaaGreatDoor.Bw
open Go.RowKit

theorem val_inj : ∀ (k : Nat) (xs ys : List Nat), xs.length = k → ys.length = k → (∀ b ∈ xs, b < 256) → (∀ b ∈ ys, b < 256) → val xs = val ys → xs = ys
  | 0, xs, ys, h1, h2, _, _, _ => by rw [List.length_eq_zero_iff.mp h1, List.length_eq_zero_iff.mp h2]
  | k + 1, xs, ys, h1, h2, hx, hy, hv => by
    have nx : xs ≠ [] := by intro h; rw [h] at h1; simp at h1
    have ny : ys ≠ [] := by intro h; rw [h] at h2; simp at h2
    have ex := (List.dropLast_concat_getLast nx).symm
    have ey := (List.dropLast_concat_getLast ny).symm
    generalize xs.dropLast = cs at ex
    generalize xs.getLast nx = c at ex
    generalize ys.dropLast = ds at ey
    generalize ys.getLast ny = d at ey
    subst ex ey
    rw [val_snoc, val_snoc] at hv
    have hc := hx c (by simp)
    have hd := hy d (by simp)
    have e1 : val cs = val ds := by omega
    have e2 : c = d := by omega
    rw [e2, val_inj k cs ds (by simpa using h1) (by simpa using h2) (fun b hb => hx b (by simp [hb])) (fun b hb => hy b (by simp [hb])) e1]
theorem Laid.same_bytes {xs ys : List Nat} {n V : Nat} (h : Laid xs n V) (k : Laid ys n V) : xs = ys := by
  have hl : xs.length = ys.length := h.1.trans k.1.symm
  refine val_inj _ xs ys hl rfl h.2.1 k.2.1 ?_
  rw [h.2.2.1, k.2.2.1, hl]
theorem Wr.keep {w w' : World} {p B n : Nat} {v : Value} {bs : List Nat} (h : Wr w p B v bs n) (hs : w.heap.size ≤ w'.heap.size) (hp : w'.heap[p]? = w.heap[p]?) (hr : ∀ g, v.ownBlock = some g → w'.heap[g]? = w.heap[g]?) : Wr w' p B v bs n := by
  obtain ⟨pb, bw, c0, c1, f0, f1, own⟩ := h
  refine ⟨pb, Nat.le_trans bw hs, (World.cell?_of_block hp).trans c0, (World.cell?_of_block hp).trans c1, (World.frozen?_of_block hp).trans f0, (World.frozen?_of_block hp).trans f1, ?_⟩
  obtain ⟨h1, h2⟩ := own
  refine ⟨h1, ?_⟩
  rcases h2 with h2 | ⟨g, cap, cur, hv, hg, hh, r⟩
  · exact .inl h2
  · exact .inr ⟨g, cap, cur, hv, hg, (hr g (by rw [hv]; rfl)).trans hh, r⟩
theorem Wr.below {w w' : World} {p B n : Nat} {v : Value} {bs : List Nat} (h : Wr w p B v bs n) (hb : Below w.heap.size w w') : Wr w' p B v bs n := by
  have h1 := h.pb
  have h2 := h.bw
  exact h.keep hb.size (hb.block p (by omega)) (fun g hg => hb.block g (h.own.lt g hg).2)
/-- another writer's step leaves this one as it is -/
theorem Wr.step {w w' : World} {p B n q : Nat} {v : Value} {bs : List Nat} {r : Option Nat} (h : Wr w p B v bs n) (s : Step q r w w') (hpq : p ≠ q) (hq : q < B) (hrp : r ≠ some p) (hrv : ∀ g, v.ownBlock = some g → r ≠ some g) : Wr w' p B v bs n := by
  have h1 := h.pb
  have h2 := h.bw
  exact h.keep s.size (s.block p (by omega) hpq hrp) (fun g hg => s.block g (h.own.lt g hg).2 (by have := (h.own.lt g hg).1; omega) (hrv g hg))
/-- a fresh writer -/
theorem Wr.fresh {w : World} {p B : Nat} (pb : p < B) (bw : B ≤ w.heap.size) (c0 : w.cell? ⟨p, 0, none⟩ = some (.slice none 0 0)) (c1 : w.cell? ⟨p, 1, none⟩ = some (.int .i64 0)) (f0 : w.frozen? ⟨p, 0, none⟩ = false) (f1 : w.frozen? ⟨p, 1, none⟩ = false) :
    Wr w p B (.slice none 0 0) [] 0 := ⟨pb, bw, c0, c1, f0, f1, World.ownsRow_nil _ _ _ _⟩
theorem Step.below {p : Nat} {w w' : World} (s : Step p none w w') (W : World) (hW : Below W.heap.size W w) (hp : W.heap.size ≤ p) : Below W.heap.size W w' :=
  ⟨s.os.trans hW.os, s.tape.trans hW.tape, s.output.trans hW.output, Nat.le_trans hW.size s.size, fun k hk => (s.block k (Nat.lt_of_lt_of_le hk hW.size) (by omega) (by simp)).trans (hW.block k hk)⟩
theorem Tab.below {w w' : World} (h : Tab w) (hb : Below w.heap.size w w') (hz : 0 < w.heap.size) : Tab w' := by
  have hc : ∀ j, w'.cell? ⟨0, j, none⟩ = w.cell? ⟨0, j, none⟩ := fun j => hb.cell (p := ⟨0, j, none⟩) hz
  unfold Tab
  rw [hc, hc, hc, hc, hc, hc, hc]
  exact h
theorem Tab.pos {w : World} (h : Tab w) : 0 < w.heap.size := by
  by_cases hz : 0 < w.heap.size
  · exact hz
  · have := h.1
    simp [World.cell?, show w.heap.size = 0 by omega] at this

end Go.Proofs.YtakomfnajeolcaaGreatDoor.Bw


/- Bits as lists: what a writer has laid, counts, sets of ranges as lists of bits, and how they are read again. Nothing of the program stands here. -/
namespace Go.Proofs.YtakomfnajeolcaaGreatDoor.Tl
open Go.RowKit
set_option linter.unusedVariables false

/-- bits as a number -/
def valB (l : List Bool) : Nat := l.foldl (fun a b => a * 2 + b.toNat) 0
theorem valB_snoc (l : List Bool) (b : Bool) : valB (l ++ [b]) = valB l * 2 + b.toNat := by
  unfold valB
  rw [List.foldl_append]
  rfl
theorem valB_append (l : List Bool) : ∀ m : List Bool, valB (l ++ m) = valB l * 2 ^ m.length + valB m :=
  Tk.snoc_ind (by simp [valB]) (fun m x ih => by
    rw [← List.append_assoc, valB_snoc, valB_snoc, ih, List.length_append, List.length_singleton, Nat.pow_succ, Nat.add_mul, Nat.mul_assoc]
    omega)
theorem bitsL_valB : ∀ l : List Bool, Tk.bitsL l.length (valB l) = l :=
  Tk.snoc_ind rfl (fun l x ih => by
    rw [valB_snoc, List.length_append, List.length_singleton, Tk.bitsL_split]
    have e : (valB l * 2 + x.toNat) / 2 ^ 1 = valB l := by cases x <;> simp <;> omega
    rw [e, ih]
    congr 1
    simp only [Tk.bitsL]
    cases x <;> simp <;> omega)
theorem valB_bitsL : ∀ k n : Nat, valB (Tk.bitsL k n) = n % 2 ^ k
  | 0, n => by simp [Tk.bitsL, valB, Nat.mod_one]
  | k + 1, n => by
    have ih := valB_bitsL k n
    simp only [Tk.bitsL]
    have e := valB_append [n / 2 ^ k % 2 == 1] (Tk.bitsL k n)
    rw [List.singleton_append] at e
    rw [e, ih, Tk.bitsL_length, Nat.mod_pow_succ]
    have h2 : valB [n / 2 ^ k % 2 == 1] = n / 2 ^ k % 2 := by
      unfold valB
      simp only [List.foldl_cons, List.foldl_nil, Nat.zero_mul, Nat.zero_add]
      rcases Nat.mod_two_eq_zero_or_one (n / 2 ^ k) with h | h <;> rw [h] <;> rfl
    rw [h2, Nat.mul_comm, Nat.add_comm]

theorem codeL_parts (x : Nat) (hx : x ≤ 18446744073709551615) : (Tk.codeL x).length = Bw.codeLen x ∧ valB (Tk.codeL x) = Bw.codeVal x ∧ x < 2 ^ Tk.clw (Tk.cls x) := by
  have key : ∀ (c L : Nat) (hd : List Bool) (v : Nat), Tk.cls x = c → Tk.clw c = L → List.replicate c true ++ (if c < 6 then [false] else []) = hd → Bw.codeLen x = hd.length + L → Bw.codeVal x = valB hd * 2 ^ L + x → x < 2 ^ L →
      (Tk.codeL x).length = Bw.codeLen x ∧ valB (Tk.codeL x) = Bw.codeVal x ∧ x < 2 ^ Tk.clw (Tk.cls x) := by
    intro c L hd v h1 h2 h3 h4 h5 h6
    unfold Tk.codeL
    rw [h1, h2, h3]
    refine ⟨?_, ?_, h6⟩
    · rw [List.length_append, Tk.bitsL_length, h4]
    · rw [valB_append, valB_bitsL, Tk.bitsL_length, Nat.mod_eq_of_lt h6, h5]
  rcases Bw.code_cases x with ⟨h0, h1, e, f⟩ | ⟨h0, h1, e, f⟩ | ⟨h0, h1, e, f⟩ | ⟨h0, h1, e, f⟩ | ⟨h0, h1, e, f⟩ | ⟨h0, h1, e, f⟩ | ⟨h0, e, f⟩
  · exact key 0 0 [false] 0 (by unfold Tk.cls; rw [if_pos h1]) rfl rfl (by rw [e]; rfl) (by rw [f]; simp [valB]) (by simpa using h1)
  · exact key 1 3 [true, false] 0 (by unfold Tk.cls; rw [if_neg (by omega), if_pos h1]) rfl rfl (by rw [e]; rfl) (by rw [f]; simp [valB]) (by simpa using h1)
  · exact key 2 7 [true, true, false] 0 (by unfold Tk.cls; rw [if_neg (by omega), if_neg (by omega), if_pos h1]) rfl rfl (by rw [e]; rfl) (by rw [f]; simp [valB]) (by simpa using h1)
  · exact key 3 12 [true, true, true, false] 0 (by unfold Tk.cls; rw [if_neg (by omega), if_neg (by omega), if_neg (by omega), if_pos h1]) rfl rfl (by rw [e]; rfl) (by rw [f]; simp [valB]) (by simpa using h1)
  · exact key 4 20 [true, true, true, true, false] 0 (by unfold Tk.cls; rw [if_neg (by omega), if_neg (by omega), if_neg (by omega), if_neg (by omega), if_pos h1]) rfl rfl (by rw [e]; rfl) (by rw [f]; simp [valB]) (by simpa using h1)
  · exact key 5 32 [true, true, true, true, true, false] 0 (by unfold Tk.cls; rw [if_neg (by omega), if_neg (by omega), if_neg (by omega), if_neg (by omega), if_neg (by omega), if_pos h1]) rfl rfl (by rw [e]; rfl) (by rw [f]; simp [valB]) (by simpa using h1)
  · exact key 6 64 [true, true, true, true, true, true] 0 (by unfold Tk.cls; rw [if_neg (by omega), if_neg (by omega), if_neg (by omega), if_neg (by omega), if_neg (by omega), if_neg (by omega)]) rfl rfl (by rw [e]; rfl) (by rw [f]; simp [valB]) (by simp; omega)
/-- these bits lie in these bytes, with noughts at the end -/
def LaidL (bs : List Nat) (l : List Bool) : Prop := Bw.Laid bs l.length (valB l)
theorem LaidL.nil : LaidL [] [] := Bw.Laid.none_
theorem LaidL.inj {a b : List Nat} {l : List Bool} (h : LaidL a l) (k : LaidL b l) : a = b := Bw.Laid.same_bytes h k
theorem val_eq (bs : List Nat) : Bw.val bs = Tk.val bs := rfl
theorem LaidL.sub {bs : List Nat} {l : List Bool} (h : LaidL bs l) : l.length ≤ 8 * bs.length ∧ 8 * bs.length < l.length + 8 ∧ Tk.sub bs 0 l.length = l := by
  obtain ⟨h1, h2, h3, h4⟩ := h
  obtain ⟨r, hr⟩ : ∃ r, 8 * bs.length = l.length + r := ⟨8 * bs.length - l.length, by omega⟩
  refine ⟨by omega, by omega, ?_⟩
  unfold Tk.sub
  rw [Tk.text_val bs h2, ← val_eq, h3, hr, Tk.bitsL_split, show l.length + r - l.length = r by omega, Nat.mul_div_cancel _ (Nat.two_pow_pos r), List.drop_zero, Nat.sub_zero, List.take_append_of_le_length (by rw [Tk.bitsL_length]; omega), List.take_of_length_le (by rw [Tk.bitsL_length]; omega), bitsL_valB]
theorem LaidL.step {bs : List Nat} {l m : List Bool} (h : Bw.Laid bs (l.length + m.length) (valB l * 2 ^ m.length + valB m)) : LaidL bs (l ++ m) := by
  unfold LaidL
  rw [List.length_append, valB_append]
  exact h

/-! Reading again. -/
theorem sub_length {bs : List Nat} {t u : Nat} (h1 : t ≤ u) (h2 : u ≤ 8 * bs.length) : (Tk.sub bs t u).length = u - t := by
  unfold Tk.sub
  rw [List.length_take, List.length_drop, Tk.textL_length]
  omega
theorem sub_cut {bs : List Nat} {t : Nat} {a b : List Bool} (hl : t + (a ++ b).length ≤ 8 * bs.length) (h : Tk.sub bs t (t + (a ++ b).length) = a ++ b) :
    Tk.sub bs t (t + a.length) = a ∧ Tk.sub bs (t + a.length) (t + a.length + b.length) = b := by
  rw [List.length_append] at hl h
  rw [Tk.sub_append bs (Nat.le_add_right t a.length) (show t + a.length ≤ t + (a.length + b.length) by omega)] at h
  have := List.append_inj h (by rw [sub_length (by omega) (by omega)]; omega)
  rw [show t + a.length + b.length = t + (a.length + b.length) by omega]
  exact this
theorem part_sub {bs : List Nat} (hb : ∀ b ∈ bs, b < 256) {t k : Nat} (h : t + k ≤ 8 * bs.length) : Tk.part bs t k = valB (Tk.sub bs t (t + k)) := by
  rw [Tk.sub_part hb t k h, valB_bitsL, Nat.mod_eq_of_lt (Tk.part_lt bs t k)]
theorem getF_back {bs : List Nat} (hb : ∀ b ∈ bs, b < 256) {t : Nat} {l : List Bool} (hl : t + l.length ≤ 8 * bs.length) (h : Tk.sub bs t (t + l.length) = l) : Tk.getF bs l.length (t, 0) = (valB l, (t + l.length, 0)) := by
  unfold Tk.getF
  rw [if_neg (by simp), if_pos hl, part_sub hb hl, h]
theorem clsF_back {bs : List Nat} (hb : ∀ b ∈ bs, b < 256) (c : Nat) (hc : c ≤ 6) : ∀ (n i t : Nat), i + n = 6 → i ≤ c →
    t + (List.replicate (c - i) true ++ (if c < 6 then [false] else [])).length ≤ 8 * bs.length →
    Tk.sub bs t (t + (List.replicate (c - i) true ++ (if c < 6 then [false] else [])).length) = List.replicate (c - i) true ++ (if c < 6 then [false] else []) →
    Tk.clsF bs n i (t, 0) = (c, (t + (List.replicate (c - i) true ++ (if c < 6 then [false] else [])).length, 0))
  | 0, i, t, h6, hi, hl, h => by
    obtain rfl : i = 6 := by omega
    obtain rfl : c = 6 := by omega
    simp [Tk.clsF]
  | n + 1, i, t, h6, hi, hl, h => by
    by_cases he : c = i
    · subst he
      rw [if_pos (by omega), Nat.sub_self, List.replicate_zero, List.nil_append] at hl h ⊢
      have g := getF_back hb hl h
      unfold Tk.clsF Tk.bitF
      rw [show ([false] : List Bool).length = 1 from rfl] at g ⊢
      rw [g]
      rfl
    · have e : c - i = (c - (i + 1)) + 1 := by omega
      rw [e, List.replicate_succ, List.cons_append, ← List.singleton_append] at hl h ⊢
      obtain ⟨h1, h2⟩ := sub_cut hl h
      have g := getF_back hb (l := [true]) (by rw [List.length_append] at hl; omega) h1
      have ih := clsF_back hb c hc n (i + 1) (t + 1) (by omega) (by omega) (by rw [List.length_append] at hl; simp only [List.length_singleton] at hl; omega) h2
      unfold Tk.clsF Tk.bitF
      rw [show ([true] : List Bool).length = 1 from rfl] at g
      rw [g]
      rw [if_pos (by rfl), ih]
      exact congrArg (fun k => (c, (k, (0 : Int)))) (by simp only [List.length_append, List.length_singleton]; omega)
theorem countF_back {bs : List Nat} (hb : ∀ b ∈ bs, b < 256) {t x : Nat} (hx : x ≤ 18446744073709551615) (hl : t + (Tk.codeL x).length ≤ 8 * bs.length) (h : Tk.sub bs t (t + (Tk.codeL x).length) = Tk.codeL x) :
    Tk.countF bs (t, 0) = (x, (t + (Tk.codeL x).length, 0)) := by
  have hlt := (codeL_parts x hx).2.2
  obtain ⟨H, hH⟩ : ∃ H, List.replicate (Tk.cls x) true ++ (if Tk.cls x < 6 then [false] else []) = H := ⟨_, rfl⟩
  unfold Tk.codeL at hl h ⊢
  rw [hH] at hl h ⊢
  obtain ⟨h1, h2⟩ := sub_cut hl h
  rw [List.length_append, Tk.bitsL_length] at hl
  have e1 := clsF_back hb (Tk.cls x) (Tk.cls_le x) 6 0 t rfl (Nat.zero_le _) (by rw [Nat.sub_zero, hH]; omega) (by rw [Nat.sub_zero, hH]; exact h1)
  rw [Nat.sub_zero, hH] at e1
  rw [Tk.bitsL_length] at h2
  have e2 : Tk.getF bs (Tk.clw (Tk.cls x)) (t + H.length, 0) = (x, (t + H.length + Tk.clw (Tk.cls x), 0)) := by
    have g := getF_back hb (l := Tk.bitsL (Tk.clw (Tk.cls x)) x) (t := t + H.length) (by rw [Tk.bitsL_length]; omega) (by rw [Tk.bitsL_length]; exact h2)
    rw [Tk.bitsL_length, valB_bitsL, Nat.mod_eq_of_lt hlt] at g
    exact g
  unfold Tk.countF
  rw [if_neg (by simp), e1]
  simp only
  rw [e2]
  simp only
  rw [if_neg (by simp), if_neg (by simp), List.length_append, Tk.bitsL_length, Nat.add_assoc]
end Go.Proofs.YtakomfnajeolcaaGreatDoor.Tl


/- What stands at a place of bytes is taken from there. Nothing of the program stands here. -/
namespace Go.Proofs.YtakomfnajeolcaaGreatDoor.Ch
open Go.RowKit
set_option linter.unusedVariables false

/-- the bits l stand at place t -/
def At (bs : List Nat) (t : Nat) (l : List Bool) : Prop := t + l.length ≤ 8 * bs.length ∧ Tk.sub bs t (t + l.length) = l
theorem At.cut {bs : List Nat} {t : Nat} {a b : List Bool} (h : At bs t (a ++ b)) : At bs t a ∧ At bs (t + a.length) b := by
  have h1 := Tl.sub_cut h.1 h.2
  have hl := h.1
  rw [List.length_append] at hl
  exact ⟨⟨by omega, h1.1⟩, ⟨by omega, h1.2⟩⟩
theorem At.all {bs : List Nat} {l : List Bool} (h : Tl.LaidL bs l) : At bs 0 l := by
  obtain ⟨h1, _, h3⟩ := h.sub
  exact ⟨by omega, by rw [Nat.zero_add]; exact h3⟩
theorem At.get {bs : List Nat} (hb : ∀ b ∈ bs, b < 256) {t k x : Nat} (h : At bs t (Tk.bitsL k x)) : Tk.getF bs k (t, 0) = (x % 2 ^ k, (t + k, 0)) := by
  have e := Tl.getF_back (l := Tk.bitsL k x) hb h.1 h.2
  rw [Tk.bitsL_length, Tl.valB_bitsL] at e
  exact e
theorem At.count {bs : List Nat} (hb : ∀ b ∈ bs, b < 256) {t x : Nat} (hx : x ≤ 18446744073709551615) (h : At bs t (Tk.codeL x)) : Tk.countF bs (t, 0) = (x, (t + (Tk.codeL x).length, 0)) := Tl.countF_back hb hx h.1 h.2
theorem At.small {bs : List Nat} (hb : ∀ b ∈ bs, b < 256) {t m x : Nat} (hx : x ≤ 18446744073709551615) (hm : x ≤ m) (h : At bs t (Tk.codeL x)) : Tk.smallF bs m (t, 0) = (x, (t + (Tk.codeL x).length, 0)) := by
  have e := h.count hb hx
  unfold Tk.smallF
  rw [e]
  simp only [ne_eq, not_true, if_false]
  rw [if_neg (by omega)]
/-- a number that may be below 0, as bits -/
def intL (z : Int) : List Bool := Tk.codeL (Tk.zigv z).toNat
def intF (bs : List Nat) (s : Nat × Int) : Int × (Nat × Int) := (Tk.zagv (((Tk.countF bs s).1 : Nat) : Int), (Tk.countF bs s).2)
theorem At.int {bs : List Nat} (hb : ∀ b ∈ bs, b < 256) {t : Nat} {z : Int} (h1 : -9223372036854775808 ≤ z) (h2 : z ≤ 9223372036854775807) (h : At bs t (intL z)) : intF bs (t, 0) = (z, (t + (intL z).length, 0)) := by
  obtain ⟨b0, b1⟩ := Tk.zig_bd h1 h2
  have e := At.count hb (x := (Tk.zigv z).toNat) (by omega) h
  unfold intF
  rw [e]
  simp only
  rw [Int.toNat_of_nonneg b0, Tk.zag_zig]
  rfl
end Go.Proofs.YtakomfnajeolcaaGreatDoor.Ch


/- Layouts as bits, taken at any place. Nothing of the program stands here. -/
namespace Go.Proofs.YtakomfnajeolcaaGreatDoor.Ch
open Go.RowKit
set_option linter.unusedVariables false

/-- where the first run begins, how far this one is from the one ahead -/
def spF (bs : List Nat) (i : Nat) (f : Int) (s : Nat × Int) : Int × Int × (Nat × Int) :=
  if i = 0 then ((intF bs s).1, 0, (intF bs s).2) else (f, ((Tk.smallF bs 524287 s).1 : Int) + 1, (Tk.smallF bs 524287 s).2)
def spanL (bs : List Nat) (M0 : Nat) : Nat → Nat → Int → List (Int × Int) → Nat × Int → Option (Int × List (Int × Int)) × (Nat × Int)
  | 0, _, f, L, s => (some (f, L), s)
  | r + 1, i, f, L, s =>
    if (Tk.smallF bs M0 (spF bs i f s).2.2).2.2 ≠ 0 then (none, (Tk.smallF bs M0 (spF bs i f s).2.2).2)
    else spanL bs M0 r (i + 1) (spF bs i f s).1 (L ++ [((spF bs i f s).2.1, ((Tk.smallF bs M0 (spF bs i f s).2.2).1 : Int) + 1)]) (Tk.smallF bs M0 (spF bs i f s).2.2).2
/-- runs that may stand behind others -/
def RunOk (M0 : Nat) (p : Int × Int) : Prop := 1 ≤ p.1 ∧ p.1 ≤ 524288 ∧ 1 ≤ p.2 ∧ p.2 ≤ (M0 : Int) + 1
theorem spanL_rest {bs : List Nat} (hb : ∀ b ∈ bs, b < 256) {M0 : Nat} (hM : M0 ≤ 1000000) : ∀ (R : List (Int × Int)) (i t : Nat) (f : Int) (L : List (Int × Int)), 0 < i → (∀ p ∈ R, RunOk M0 p) → At bs t (Tk.restL i R) →
    spanL bs M0 R.length i f L (t, 0) = (some (f, L ++ R), (t + (Tk.restL i R).length, 0))
  | [], i, t, f, L, hi, hR, h => by simp [spanL, Tk.restL]
  | p :: R, i, t, f, L, hi, hR, h => by
    obtain ⟨p1, p2, p3, p4⟩ := hR p (by simp)
    unfold Tk.restL at h
    rw [if_pos hi] at h
    obtain ⟨h1, h2⟩ := h.cut
    obtain ⟨h3, h4⟩ := h1.cut
    have e1 := At.small hb (m := 524287) (x := (p.1 - 1).toNat) (by omega) (by omega) h3
    have e2 := At.small hb (m := M0) (x := (p.2 - 1).toNat) (by omega) (by omega) h4
    have es : spF bs i f (t, 0) = (f, p.1, (t + (Tk.codeL (p.1 - 1).toNat).length, 0)) := by
      unfold spF
      rw [if_neg (by omega), e1]
      simp only
      rw [Int.toNat_of_nonneg (by omega)]
      congr 2
      omega
    rw [List.length_append] at h2
    have ih := spanL_rest hb hM R (i + 1) _ f (L ++ [p]) (by omega) (fun q hq => hR q (by simp [hq])) h2
    rw [List.length_cons]
    unfold spanL
    rw [es]
    simp only
    rw [e2]
    simp only [ne_eq, not_true, if_false]
    rw [Int.toNat_of_nonneg (by omega), show (p.2 - 1 + 1 : Int) = p.2 by omega, show ((p.1, p.2) : Int × Int) = p from rfl]
    rw [show t + (Tk.codeL (p.1 - 1).toNat).length + (Tk.codeL (p.2 - 1).toNat).length = t + ((Tk.codeL (p.1 - 1).toNat).length + (Tk.codeL (p.2 - 1).toNat).length) by omega, ih]
    refine Prod.ext (by simp) ?_
    show (_, _) = (_, _)
    simp only [Tk.restL, if_pos hi, List.length_append]
    congr 1
    omega
/-- a layout taken, of at most M0 + 1 buckets -/
def takeS (right : Int → List (Int × Int) → Bool) (bs : List Nat) (M0 : Nat) (s : Nat × Int) : (Int × List (Int × Int)) × (Nat × Int) :=
  match spanL bs M0 (Tk.smallF bs (M0 + 1) s).1 0 0 [] (Tk.smallF bs (M0 + 1) s).2 with
  | (none, s') => ((0, []), s')
  | (some (f, L), s') => (if right f L then (f, L) else (0, []), s')
theorem takeS_back {bs : List Nat} (hb : ∀ b ∈ bs, b < 256) {M0 : Nat} (hM : M0 ≤ 1000000) {right : Int → List (Int × Int) → Bool} {t : Nat} {f : Int} {L : List (Int × Int)} (hr : right f L = true) (hl : L.length ≤ M0 + 1)
    (h0 : L = [] → f = 0) (hf : -262144 ≤ f ∧ f ≤ 262144) (hL : ∀ p R, L = p :: R → p.1 = 0 ∧ 1 ≤ p.2 ∧ p.2 ≤ (M0 : Int) + 1 ∧ ∀ q ∈ R, RunOk M0 q) (h : At bs t (Tk.layL f L)) :
    takeS right bs M0 (t, 0) = ((f, L), (t + (Tk.layL f L).length, 0)) := by
  cases L with
  | nil =>
    have e := At.small hb (m := M0 + 1) (x := 0) (by omega) (by omega) (by simpa [Tk.layL] using h)
    obtain rfl := h0 rfl
    unfold takeS
    rw [e]
    simp [spanL, hr, Tk.layL]
  | cons p R =>
    obtain ⟨p1, p2, p3, hR⟩ := hL p R rfl
    unfold Tk.layL at h
    rw [if_neg (by simp)] at h
    obtain ⟨h1, h2⟩ := h.cut
    obtain ⟨h3, h4⟩ := h1.cut
    have e1 := At.small hb (m := M0 + 1) (x := (p :: R).length) (by simp at hl ⊢; omega) hl h3
    have e2 := At.int hb (z := f) (by omega) (by omega) h4
    unfold Tk.restL at h2
    simp only [Nat.lt_irrefl, if_false, List.nil_append] at h2
    obtain ⟨h5, h6⟩ := h2.cut
    have e3 := At.small hb (m := M0) (x := (p.2 - 1).toNat) (by omega) (by omega) h5
    have e4 := spanL_rest hb hM R 1 _ f ([] ++ [p]) (by omega) hR h6
    have es : spF bs 0 0 (t + (Tk.codeL (p :: R).length).length, 0) = (f, 0, (t + (Tk.codeL (p :: R).length).length + (intL f).length, 0)) := by
      unfold spF
      rw [if_pos rfl, e2]
    have eF : spanL bs M0 (p :: R).length 0 0 [] (t + (Tk.codeL (p :: R).length).length, 0) = (some (f, p :: R), (t + (Tk.layL f (p :: R)).length, 0)) := by
      show spanL bs M0 (R.length + 1) 0 0 [] _ = _
      unfold spanL
      rw [es]
      simp only
      rw [List.length_append] at e3 e4
      have e3' : Tk.smallF bs M0 (t + (Tk.codeL (p :: R).length).length + (intL f).length, 0) = ((p.2 - 1).toNat, (t + (Tk.codeL (p :: R).length).length + (intL f).length + (Tk.codeL (p.2 - 1).toNat).length, 0)) := by
        have := e3
        unfold intL
        rw [show t + ((Tk.codeL (p :: R).length).length + (Tk.codeL (Tk.zigv f).toNat).length) = t + (Tk.codeL (p :: R).length).length + (Tk.codeL (Tk.zigv f).toNat).length by omega] at this
        exact this
      rw [e3']
      simp only [ne_eq, not_true, if_false]
      rw [Int.toNat_of_nonneg (by omega), show (p.2 - 1 + 1 : Int) = p.2 by omega, show ((0, p.2) : Int × Int) = p from Prod.ext p1.symm rfl]
      have e4' := e4
      unfold intL
      rw [show t + ((Tk.codeL (p :: R).length).length + (Tk.codeL (Tk.zigv f).toNat).length) + (Tk.codeL (p.2 - 1).toNat).length = t + (Tk.codeL (p :: R).length).length + (Tk.codeL (Tk.zigv f).toNat).length + (Tk.codeL (p.2 - 1).toNat).length by omega] at e4'
      rw [e4']
      refine Prod.ext (by simp) ?_
      show (_, _) = (_, _)
      simp only [Tk.layL, if_neg (List.cons_ne_nil p R), Tk.restL, Nat.lt_irrefl, if_false, List.nil_append, List.length_append, Nat.zero_add]
      congr 1
      omega
    unfold takeS
    rw [e1]
    simp only
    rw [eF]
    simp [hr]
end Go.Proofs.YtakomfnajeolcaaGreatDoor.Ch
