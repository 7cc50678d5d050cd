/- What a reader of any bytes holds, its errors too, by a plain model (getF, bitF, ..), and the contracts of next, Err, Left, fail, Get and Bit. -/
import Derived.Test.YtjnienlidmmhdaaGreatDoorTkA
import Derived.Deep.QuietTactic
import Derived.BigQuiet
namespace Go.Proofs.YtjnienlidmmhdaaGreatDoor.Tk
open Go.RowKit

/-- a bit of a byte is a bit of the whole number -/
theorem val_bit : ∀ (n : Nat) (bs : List Nat) (i b : Nat), bs.length = n → (∀ b ∈ bs, b < 256) → bs[i / 8]? = some b → b / 2 ^ (7 - i % 8) % 2 = val bs / 2 ^ (8 * bs.length - 1 - i) % 2
  | 0, bs, i, b, h1, _, hb => by rw [List.length_eq_zero_iff.mp h1] at hb; simp at hb
  | n + 1, bs, i, b, h1, hx, hb => by
    have nx : bs ≠ [] := by intro h; rw [h] at h1; simp at h1
    have ex := (List.dropLast_concat_getLast nx).symm
    generalize bs.dropLast = cs at ex
    generalize bs.getLast nx = c at ex
    subst ex
    have hcl : cs.length = n := by simpa using h1
    have hc : c < 256 := hx c (by simp)
    rw [val_snoc]
    have hlen : (cs ++ [c]).length = n + 1 := h1
    rw [hlen]
    obtain ⟨hi, _⟩ := List.getElem?_eq_some_iff.mp hb
    rw [hlen] at hi
    by_cases hlast : i / 8 = n
    · have hbc : b = c := by
        rw [hlast, ← hcl] at hb
        simpa using hb.symm
      subst hbc
      have he : 8 * (n + 1) - 1 - i = 7 - i % 8 := by omega
      rw [he]
      have hk : 7 - i % 8 ≤ 7 := by omega
      generalize 7 - i % 8 = k at hk
      have h256 : val cs * 256 = val cs * 2 ^ (8 - k) * 2 ^ k := by
        rw [Nat.mul_assoc, ← Nat.pow_add, show 8 - k + k = 8 by omega]
      rw [h256, Nat.add_comm, Nat.add_mul_div_right _ _ (Nat.two_pow_pos k)]
      have h2 : val cs * 2 ^ (8 - k) = val cs * 2 ^ (7 - k) * 2 := by rw [show 8 - k = 7 - k + 1 by omega, Nat.pow_succ, Nat.mul_assoc]
      rw [h2]
      omega
    · have hin : i / 8 < cs.length := by omega
      rw [List.getElem?_append_left hin] at hb
      have ih := val_bit n cs i b hcl (fun b hb => hx b (by simp [hb])) hb
      rw [ih, hcl]
      have he : 8 * (n + 1) - 1 - i = 8 + (8 * n - 1 - i) := by omega
      rw [he, Nat.pow_add, ← Nat.div_div_eq_div_mul]
      have h3 : (val cs * 256 + c) / 2 ^ 8 = val cs := by omega
      rw [h3]

/-- the reader at block q reads the bytes bs that lie at a, from bit s.1 on; what is wrong is s.2 -/
structure Rd (w : World) (q : Nat) (a : Option Addr) (l c : Nat) (bs : List Nat) (s : Nat × Int) : Prop where
  qw : q < w.heap.size
  c0 : w.cell? ⟨q, 0, none⟩ = some (.slice a l c)
  c1 : w.cell? ⟨q, 1, none⟩ = some (.int .i64 (s.1 : Int))
  c2 : w.cell? ⟨q, 2, none⟩ = some (.int .i64 s.2)
  f1 : w.frozen? ⟨q, 1, none⟩ = false
  f2 : w.frozen? ⟨q, 2, none⟩ = false
  len : l = bs.length
  byte : ∀ b ∈ bs, b < 256
  lies : 0 < l → ∃ r o, a = some ⟨r, o, none⟩ ∧ r ≠ q ∧ ∀ (j : Nat) (b : Nat), bs[j]? = some b → w.cell? ⟨r, o + j, none⟩ = some (.int .u8 (b : Int))
  tl : s.1 ≤ 8 * l
  lb : l ≤ 1000000

theorem Rd.drewN {w : World} {q l c : Nat} {a : Option Addr} {bs : List Nat} {s : Nat × Int} (h : Rd w q a l c bs s) (n : Nat) : Rd (w.drewN n) q a l c bs s :=
  ⟨h.qw, h.c0, h.c1, h.c2, h.f1, h.f2, h.len, h.byte, h.lies, h.tl, h.lb⟩
theorem Step.drewN {q : Nat} {w : World} (n : Nat) : Step q none w (w.drewN n) := ⟨rfl, rfl, rfl, Nat.le_refl _, fun _ _ _ _ => rfl⟩
theorem Step.trans0 {q : Nat} {w w1 w2 : World} (h : Step q none w w1) (k : Step q none w1 w2) : Step q none w w2 :=
  ⟨k.os.trans h.os, k.tape.trans h.tape, k.output.trans h.output, Nat.le_trans h.size k.size, fun j hj hp hr => (k.block j (Nat.lt_of_lt_of_le hj h.size) hp hr).trans (h.block j hj hp hr)⟩

theorem Rd.moved {w w' : World} {q l c : Nat} {a : Option Addr} {bs : List Nat} {s s' : Nat × Int} (h : Rd w q a l c bs s) (hs : w.heap.size ≤ w'.heap.size) (hb : ∀ k, k < w.heap.size → k ≠ q → w'.heap[k]? = w.heap[k]?)
    (c0 : w'.cell? ⟨q, 0, none⟩ = w.cell? ⟨q, 0, none⟩) (c1 : w'.cell? ⟨q, 1, none⟩ = some (.int .i64 (s'.1 : Int))) (c2 : w'.cell? ⟨q, 2, none⟩ = some (.int .i64 s'.2)) (f1 : w'.frozen? ⟨q, 1, none⟩ = false) (f2 : w'.frozen? ⟨q, 2, none⟩ = false) (ht : s'.1 ≤ 8 * l) : Rd w' q a l c bs s' := by
  refine ⟨Nat.lt_of_lt_of_le h.qw hs, c0.trans h.c0, c1, c2, f1, f2, h.len, h.byte, fun h0 => ?_, ht, h.lb⟩
  obtain ⟨r, o, e, hr, hc⟩ := h.lies h0
  refine ⟨r, o, e, hr, fun j b hj => ?_⟩
  have hcc := hc j b hj
  have hlt : r < w.heap.size := block_lt_of_cell hcc
  exact (World.cell?_of_block (hb r hlt hr)).trans hcc

/-- the reader's cell of taken bits set -/
theorem Rd.taken {w : World} {q l c : Nat} {a : Option Addr} {bs : List Nat} {s : Nat × Int} (h : Rd w q a l c bs s) (u : Nat) (hu : u ≤ 8 * l) (n : Nat) (U : Int) (hU : U = (u : Int)) :
    Rd ((w.drewN n).setCell ⟨q, 1, none⟩ (.int .i64 U)) q a l c bs (u, s.2) ∧ Step q none w ((w.drewN n).setCell ⟨q, 1, none⟩ (.int .i64 U)) := by
  subst hU
  have hb : ∀ k, k < w.heap.size → k ≠ q → ((w.drewN n).setCell ⟨q, 1, none⟩ (.int .i64 (u : Int))).heap[k]? = w.heap[k]? := fun k _ hk => Below.heap_setCell (w.drewN n) ⟨q, 1, none⟩ _ k hk
  have c1 : (w.drewN n).cell? ⟨q, 1, none⟩ = some (.int .i64 (s.1 : Int)) := h.c1
  have f1 : (w.drewN n).frozen? ⟨q, 1, none⟩ = false := h.f1
  have f2 : (w.drewN n).frozen? ⟨q, 2, none⟩ = false := h.f2
  refine ⟨h.moved (by simp [World.drewN]) hb ?_ ?_ ?_ ?_ ?_ hu, rfl, rfl, rfl, by simp [World.drewN], fun k hk hq _ => hb k hk hq⟩
  · rw [World.cell?_setCell_other _ _ _ _ (by simp)]; rfl
  · simp [go_sem, c1]
  · rw [World.cell?_setCell_other _ _ _ _ (by simp)]; exact h.c2
  · simp [go_sem, f1]
  · simp [go_sem, f2]

/-- the reader's cell of what is wrong set -/
theorem Rd.wronged {w : World} {q l c : Nat} {a : Option Addr} {bs : List Nat} {s : Nat × Int} (h : Rd w q a l c bs s) (e : Int) :
    Rd (w.setCell ⟨q, 2, none⟩ (.int .i64 e)) q a l c bs (s.1, e) ∧ Step q none w (w.setCell ⟨q, 2, none⟩ (.int .i64 e)) := by
  have hb : ∀ k, k < w.heap.size → k ≠ q → (w.setCell ⟨q, 2, none⟩ (.int .i64 e)).heap[k]? = w.heap[k]? := fun k _ hk => Below.heap_setCell w ⟨q, 2, none⟩ _ k hk
  have c2 := h.c2
  have f1 := h.f1
  have f2 := h.f2
  refine ⟨h.moved (by simp) hb ?_ ?_ ?_ ?_ ?_ h.tl, rfl, rfl, rfl, by simp, fun k hk hq _ => hb k hk hq⟩
  · rw [World.cell?_setCell_other _ _ _ _ (by simp)]
  · rw [World.cell?_setCell_other _ _ _ _ (by simp)]; exact h.c1
  · simp [go_sem, c2]
  · simp [go_sem, f1]
  · simp [go_sem, f2]

/-- what taking leaves: only the reader's own block may have turned -/
def TakePost (q : Nat) (a : Option Addr) (l c : Nat) (bs : List Nat) (v : Value) (s : Nat × Int) (w : World) (e : Ending) (w' : World) : Prop :=
  e = .returned v ∧ Rd w' q a l c bs s ∧ Step q none w w'

/-- the number that k bits from t on are -/
def part (bs : List Nat) (t k : Nat) : Nat := val bs / 2 ^ (8 * bs.length - t - k) % 2 ^ k

theorem part_one (bs : List Nat) (t : Nat) : part bs t 1 = val bs / 2 ^ (8 * bs.length - 1 - t) % 2 := by
  unfold part
  rw [show 8 * bs.length - t - 1 = 8 * bs.length - 1 - t by omega]
theorem part_succ (bs : List Nat) (t k : Nat) (h : t + k < 8 * bs.length) : part bs t (k + 1) = part bs t k * 2 + part bs (t + k) 1 := by
  unfold part
  generalize 8 * bs.length = M at *
  have e1 : M - t - (k + 1) = M - (t + k) - 1 := by omega
  have e2 : val bs / 2 ^ (M - t - k) = val bs / 2 ^ (M - (t + k) - 1) / 2 := by
    rw [Nat.div_div_eq_div_mul, ← Nat.pow_succ, show (M - (t + k) - 1).succ = M - t - k by omega]
  rw [e1, e2, mod_two_succ]

theorem u8_and_one {x : Int} (h0 : 0 ≤ x) (h1 : x < 256) : bits .and .u8 x 1 = x % 2 := by
  obtain ⟨a, rfl⟩ := Int.eq_ofNat_of_zero_le h0
  rw [show (1 : Int) = ((1 : Nat) : Int) from rfl, u8_and_nat _ _ (by omega) (by decide), Nat.and_one_is_mod]
  omega

theorem or_double {m b : Nat} (hm : m < 9223372036854775808) (hb : b < 2) : bits .or .u64 ((m : Int) * 2) (b : Int) = ((m * 2 + b : Nat) : Int) := by
  have e : (m : Int) * 2 = ((m * 2 : Nat) : Int) := by omega
  rw [e, u64_or_nat _ _ (by omega) (by omega), nat_join 1 _ _ (by omega) (by omega)]
theorem part_lt (bs : List Nat) (t k : Nat) : part bs t k < 2 ^ k := Nat.mod_lt _ (Nat.two_pow_pos k)


theorem next_any (q l c : Nat) (a : Option Addr) (bs : List Nat) (s : Nat × Int) (w : World) (h : Rd w q a l c bs s) (ht : s.1 < 8 * l) :
    Calls Tryz.prog 212 #[.pointer (some ⟨q, 0, none⟩)] w (TakePost q a l c bs (.int .u64 ((part bs s.1 1 : Nat) : Int)) (s.1 + 1, s.2) w) := by
  have H := Lib.hid h
  obtain ⟨t, sw⟩ := s
  obtain ⟨qw, c0, c1, c2, f1, f2, b1, b2, b3, tl, lb⟩ := h
  dsimp only at c1 c2 ht tl ⊢
  obtain ⟨r, o, rfl, qr, b3⟩ := b3 (by omega)
  have hk : t / 8 < bs.length := by omega
  obtain ⟨b, hb⟩ : ∃ b, bs[t / 8]? = some b := ⟨_, List.getElem?_eq_getElem hk⟩
  have kb := b3 _ _ hb
  have hb256 : b < 256 := b2 b (List.mem_of_getElem? hb)
  have hv := val_bit _ bs t b rfl b2 hb
  have hti : (t : Int) / 8 < (l : Int) := by omega
  have ht8 : (t : Int) % 8 < 8 := by omega
  obtain ⟨X, hX⟩ : ∃ X, bits .and .u8 ((b : Int) / 2 ^ (7 - t % 8)) 1 = X := ⟨_, rfl⟩
  have hX' : X = ((part bs t 1 : Nat) : Int) := by
    have e : ((b : Int) / 2 ^ (7 - t % 8)) = ((b / 2 ^ (7 - t % 8) : Nat) : Int) := by simp
    have hd : b / 2 ^ (7 - t % 8) ≤ b := Nat.div_le_self _ _
    rw [← hX, e, part_one, ← hv]
    generalize b / 2 ^ (7 - t % 8) = y at *
    rw [u8_and_one (by omega) (by omega)]
    omega
  have X0 : 0 ≤ X := by omega
  have X1 : X ≤ 1 := by
    have : part bs t 1 < 2 := by rw [part_one]; omega
    omega
  have HX := Lib.hid hX'
  clear hX' hv b1 b2 b3 hb
  go_enter Tryz.func212, Tryz.ntmps212
  go_wp2_with fail
  go_quiet (fail)
  go_wp2_with fail
  go_ret
  obtain ⟨r1, r2⟩ := H.out.taken (t + 1) (by omega) nq ((t : Int) + 1) (by omega)
  exact ⟨ret_int HX.out, r1, r2⟩

theorem err_any (q l c : Nat) (a : Option Addr) (bs : List Nat) (s : Nat × Int) (w : World) (h : Rd w q a l c bs s) :
    Calls Tryz.prog 187 #[.pointer (some ⟨q, 0, none⟩)] w fun e w' => e = .returned (.int .i64 s.2) ∧ w = w' := by
  have c2 := h.c2
  clear h
  go_enter Tryz.func187, Tryz.ntmps187
  go_wp2
  go_ret
  exact ⟨rfl, rfl⟩

theorem left_any (q l c : Nat) (a : Option Addr) (bs : List Nat) (s : Nat × Int) (w : World) (h : Rd w q a l c bs s) :
    Calls Tryz.prog 211 #[.pointer (some ⟨q, 0, none⟩)] w fun e w' => e = .returned (.int .i64 ((l : Int) * 8 - (s.1 : Int))) ∧ ∃ n, w' = w.drewN n := by
  obtain ⟨t, sw⟩ := s
  have c0 := h.c0
  have c1 := h.c1
  have tl := h.tl
  have lb := h.lb
  dsimp only at c1 tl ⊢
  have w1 : IntKind.i64.wrap ((l : Int) * 8) = (l : Int) * 8 := IntWalk.i64_in _ (by omega)
  have w2 : IntKind.i64.wrap ((l : Int) * 8 - (t : Int)) = (l : Int) * 8 - (t : Int) := IntWalk.i64_in _ (by omega)
  clear h
  go_enter Tryz.func211, Tryz.ntmps211
  go_wp2
  go_quiet (fail)
  go_wp2
  go_ret
  exact ⟨rfl, _, rfl⟩

theorem fail_any (q l c u : Nat) (a : Option Addr) (bs : List Nat) (s : Nat × Int) (x : Int) (w : World) (h : Rd w q a l c bs s) (hu : u ≤ 8 * l) :
    Calls Tryz.prog 189 #[.pointer (some ⟨q, 0, none⟩), .int .i64 (u : Int), .int .i64 x] w fun e w' => e = .returned (.tuple #[]) ∧ Rd w' q a l c bs (u, x) ∧ Step q none w w' := by
  have H := Lib.hid h
  obtain ⟨r1, r2⟩ := h.taken u hu 0 (u : Int) rfl
  rw [show w.drewN 0 = w from rfl] at r1 r2
  obtain ⟨r3, r4⟩ := r1.wronged x
  have c1 := h.c1
  have c2 := h.c2
  have f1 := h.f1
  have f2 := h.f2
  have R : Hid (Rd ((w.setCell ⟨q, 1, none⟩ (.int .i64 (u : Int))).setCell ⟨q, 2, none⟩ (.int .i64 x)) q a l c bs (u, x) ∧ Step q none w ((w.setCell ⟨q, 1, none⟩ (.int .i64 (u : Int))).setCell ⟨q, 2, none⟩ (.int .i64 x))) := ⟨r3, r2.trans0 r4⟩
  clear r1 r2 r3 r4 h
  go_enter Tryz.func189, Tryz.ntmps189
  go_wp2_with fail
  go_end0
  exact ⟨rfl, R.out⟩
end Go.Proofs.YtjnienlidmmhdaaGreatDoor.Tk
