/- What a reader of bits holds in memory, and the contracts of one bit and of a number of so many bits taken. -/
import Derived.Test.YtdnihkmdigmnoaaDoorBitsL
import Derived.Deep.QuietTactic
import Derived.BigQuiet
namespace Go.Proofs.YtdnihkmdigmnoaaDoor
open Go.RowKit

/-- a bit of a byte is a bit of the whole number -/
theorem val_bit : ∀ (n : Nat) (bs : List Nat) (i b : Nat), bs.length = n → (∀ b ∈ bs, b < 256) → bs[i / 8]? = some b → b / 2 ^ (7 - i % 8) % 2 = val bs / 2 ^ (8 * bs.length - 1 - i) % 2
  | 0, bs, i, b, h1, _, hb => by rw [List.length_eq_zero_iff.mp h1] at hb; simp at hb
  | n + 1, bs, i, b, h1, hx, hb => by
    have nx : bs ≠ [] := by intro h; rw [h] at h1; simp at h1
    have ex := (List.dropLast_concat_getLast nx).symm
    generalize bs.dropLast = cs at ex
    generalize bs.getLast nx = c at ex
    subst ex
    have hcl : cs.length = n := by simpa using h1
    have hc : c < 256 := hx c (by simp)
    rw [val_snoc]
    have hlen : (cs ++ [c]).length = n + 1 := h1
    rw [hlen]
    obtain ⟨hi, _⟩ := List.getElem?_eq_some_iff.mp hb
    rw [hlen] at hi
    by_cases hlast : i / 8 = n
    · have hbc : b = c := by
        rw [hlast, ← hcl] at hb
        simpa using hb.symm
      subst hbc
      have he : 8 * (n + 1) - 1 - i = 7 - i % 8 := by omega
      rw [he]
      have hk : 7 - i % 8 ≤ 7 := by omega
      generalize 7 - i % 8 = k at hk
      have h256 : val cs * 256 = val cs * 2 ^ (8 - k) * 2 ^ k := by
        rw [Nat.mul_assoc, ← Nat.pow_add, show 8 - k + k = 8 by omega]
      rw [h256, Nat.add_comm, Nat.add_mul_div_right _ _ (Nat.two_pow_pos k)]
      have h2 : val cs * 2 ^ (8 - k) = val cs * 2 ^ (7 - k) * 2 := by rw [show 8 - k = 7 - k + 1 by omega, Nat.pow_succ, Nat.mul_assoc]
      rw [h2]
      omega
    · have hin : i / 8 < cs.length := by omega
      rw [List.getElem?_append_left hin] at hb
      have ih := val_bit n cs i b hcl (fun b hb => hx b (by simp [hb])) hb
      rw [ih, hcl]
      have he : 8 * (n + 1) - 1 - i = 8 + (8 * n - 1 - i) := by omega
      rw [he, Nat.pow_add, ← Nat.div_div_eq_div_mul]
      have h3 : (val cs * 256 + c) / 2 ^ 8 = val cs := by omega
      rw [h3]

/-- the reader at block q reads the bytes bs of block r, from bit t on -/
structure Rd (w : World) (q r l c : Nat) (bs : List Nat) (t : Nat) : Prop where
  qr : r ≠ q
  qw : q < w.heap.size
  c0 : w.cell? ⟨q, 0, none⟩ = some (.slice (some ⟨r, 0, none⟩) l c)
  c1 : w.cell? ⟨q, 1, none⟩ = some (.int .i64 (t : Int))
  c2 : w.cell? ⟨q, 2, none⟩ = some (.int .i64 0)
  f1 : w.frozen? ⟨q, 1, none⟩ = false
  bytes : Bs w r l bs
  tl : t ≤ 8 * l
  lb : l ≤ 1000000

theorem Rd.moved {w w' : World} {q r l c t u : Nat} {bs : List Nat} (h : Rd w q r l c bs t) (hs : w.heap.size ≤ w'.heap.size) (hb : ∀ k, k < w.heap.size → k ≠ q → w'.heap[k]? = w.heap[k]?)
    (c0 : w'.cell? ⟨q, 0, none⟩ = w.cell? ⟨q, 0, none⟩) (c1 : w'.cell? ⟨q, 1, none⟩ = some (.int .i64 (u : Int))) (c2 : w'.cell? ⟨q, 2, none⟩ = w.cell? ⟨q, 2, none⟩) (f1 : w'.frozen? ⟨q, 1, none⟩ = false) (ht : u ≤ 8 * l) : Rd w' q r l c bs u := by
  refine ⟨h.qr, Nat.lt_of_lt_of_le h.qw hs, c0.trans h.c0, c1, c2.trans h.c2, f1, ?_, ht, h.lb⟩
  obtain ⟨b1, b2, b3⟩ := h.bytes
  refine ⟨b1, b2, fun j b hj => ?_⟩
  have hc := b3 j b hj
  have hlt : r < w.heap.size := block_lt_of_cell hc
  exact (World.cell?_of_block (hb r hlt h.qr)).trans hc

theorem Rd.taken {w : World} {q r l c t : Nat} {bs : List Nat} (h : Rd w q r l c bs t) (ht : t + 1 ≤ 8 * l) (n : Nat) :
    Rd ((w.drewN n).setCell ⟨q, 1, none⟩ (.int .i64 ((t : Int) + 1))) q r l c bs (t + 1) ∧ Step q none w ((w.drewN n).setCell ⟨q, 1, none⟩ (.int .i64 ((t : Int) + 1))) := by
  have hb : ∀ k, k < w.heap.size → k ≠ q → ((w.drewN n).setCell ⟨q, 1, none⟩ (.int .i64 ((t : Int) + 1))).heap[k]? = w.heap[k]? := fun k _ hk => Below.heap_setCell (w.drewN n) ⟨q, 1, none⟩ _ k hk
  have c1 : (w.drewN n).cell? ⟨q, 1, none⟩ = some (.int .i64 (t : Int)) := h.c1
  have f1 : (w.drewN n).frozen? ⟨q, 1, none⟩ = false := h.f1
  refine ⟨h.moved (by simp [World.drewN]) hb ?_ ?_ ?_ ?_ (by omega), rfl, rfl, rfl, by simp [World.drewN], fun k hk hq _ => hb k hk hq⟩
  · rw [World.cell?_setCell_other _ _ _ _ (by simp)]; rfl
  · simp [go_sem, c1]
  · rw [World.cell?_setCell_other _ _ _ _ (by simp)]; rfl
  · simp [go_sem, f1]

/-- what taking leaves: only the reader's own block may have turned -/
def TakePost (q r l c : Nat) (bs : List Nat) (t : Nat) (v : Value) (w : World) (e : Ending) (w' : World) : Prop :=
  e = .returned v ∧ Rd w' q r l c bs t ∧ Step q none w w'

/-- the number that k bits from t on are -/
def part (bs : List Nat) (t k : Nat) : Nat := val bs / 2 ^ (8 * bs.length - t - k) % 2 ^ k

theorem part_one (bs : List Nat) (t : Nat) : part bs t 1 = val bs / 2 ^ (8 * bs.length - 1 - t) % 2 := by
  unfold part
  rw [show 8 * bs.length - t - 1 = 8 * bs.length - 1 - t by omega]
theorem part_succ (bs : List Nat) (t k : Nat) (h : t + k < 8 * bs.length) : part bs t (k + 1) = part bs t k * 2 + part bs (t + k) 1 := by
  unfold part
  generalize 8 * bs.length = M at *
  have e1 : M - t - (k + 1) = M - (t + k) - 1 := by omega
  have e2 : val bs / 2 ^ (M - t - k) = val bs / 2 ^ (M - (t + k) - 1) / 2 := by
    rw [Nat.div_div_eq_div_mul, ← Nat.pow_succ, show (M - (t + k) - 1).succ = M - t - k by omega]
  rw [e1, e2, mod_two_succ]

theorem u8_and_one {x : Int} (h0 : 0 ≤ x) (h1 : x < 256) : bits .and .u8 x 1 = x % 2 := by
  obtain ⟨a, rfl⟩ := Int.eq_ofNat_of_zero_le h0
  rw [show (1 : Int) = ((1 : Nat) : Int) from rfl, u8_and_nat _ _ (by omega) (by decide), Nat.and_one_is_mod]
  omega

set_option maxHeartbeats 400000 in
theorem next_any (q r l c t : Nat) (bs : List Nat) (w : World) (h : Rd w q r l c bs t) (ht : t < 8 * l) :
    Calls Tryd.prog 25 #[.pointer (some ⟨q, 0, none⟩)] w (TakePost q r l c bs (t + 1) (.int .u64 ((part bs t 1 : Nat) : Int)) w) := by
  have H := Lib.hid h
  obtain ⟨qr, qw, c0, c1, c2, f1, ⟨b1, b2, b3⟩, tl, lb⟩ := h
  have hk : t / 8 < bs.length := by omega
  obtain ⟨b, hb⟩ : ∃ b, bs[t / 8]? = some b := ⟨_, List.getElem?_eq_getElem hk⟩
  have kb := b3 _ _ hb
  have hb256 : b < 256 := b2 b (List.mem_of_getElem? hb)
  have hv := val_bit _ bs t b rfl b2 hb
  have hti : (t : Int) / 8 < (l : Int) := by omega
  have ht8 : (t : Int) % 8 < 8 := by omega
  obtain ⟨X, hX⟩ : ∃ X, bits .and .u8 ((b : Int) / 2 ^ (7 - t % 8)) 1 = X := ⟨_, rfl⟩
  have hX' : X = ((part bs t 1 : Nat) : Int) := by
    have e : ((b : Int) / 2 ^ (7 - t % 8)) = ((b / 2 ^ (7 - t % 8) : Nat) : Int) := by simp
    have hd : b / 2 ^ (7 - t % 8) ≤ b := Nat.div_le_self _ _
    rw [← hX, e, part_one, ← hv]
    generalize b / 2 ^ (7 - t % 8) = y at *
    rw [u8_and_one (by omega) (by omega)]
    omega
  have X0 : 0 ≤ X := by omega
  have X1 : X ≤ 1 := by
    have : part bs t 1 < 2 := by rw [part_one]; omega
    omega
  have HX := Lib.hid hX'
  clear hX' hv b1 b2 b3 hb
  go_enter Tryd.func25, Tryd.ntmps25
  go_wp2_with fail
  go_quiet (fail)
  go_wp2_with fail
  go_ret
  obtain ⟨r1, r2⟩ := H.out.taken (by omega) nq
  exact ⟨ret_int HX.out, r1, r2⟩

theorem Step.trans0 {q : Nat} {w w1 w2 : World} (h : Step q none w w1) (k : Step q none w1 w2) : Step q none w w2 :=
  ⟨k.os.trans h.os, k.tape.trans h.tape, k.output.trans h.output, Nat.le_trans h.size k.size, fun j hj hp hr => (k.block j (Nat.lt_of_lt_of_le hj h.size) hp hr).trans (h.block j hj hp hr)⟩

theorem err_any (q r l c t : Nat) (bs : List Nat) (w : World) (h : Rd w q r l c bs t) :
    Calls Tryd.prog 18 #[.pointer (some ⟨q, 0, none⟩)] w fun e w' => e = .returned (.int .i64 0) ∧ w = w' := by
  have c2 := h.c2
  clear h
  go_enter Tryd.func18, Tryd.ntmps18
  go_wp2
  go_ret
  exact ⟨rfl, rfl⟩

theorem left_any (q r l c t : Nat) (bs : List Nat) (w : World) (h : Rd w q r l c bs t) :
    Calls Tryd.prog 12 #[.pointer (some ⟨q, 0, none⟩)] w fun e w' => e = .returned (.int .i64 ((l : Int) * 8 - (t : Int))) ∧ ∃ n, w' = w.drewN n := by
  have c0 := h.c0
  have c1 := h.c1
  have tl := h.tl
  have lb := h.lb
  have w1 : IntKind.i64.wrap ((l : Int) * 8) = (l : Int) * 8 := IntWalk.i64_in _ (by omega)
  have w2 : IntKind.i64.wrap ((l : Int) * 8 - (t : Int)) = (l : Int) * 8 - (t : Int) := IntWalk.i64_in _ (by omega)
  clear h
  go_enter Tryd.func12, Tryd.ntmps12
  go_wp2
  go_quiet (fail)
  go_wp2
  go_ret
  exact ⟨rfl, _, rfl⟩

theorem Rd.drewN {w : World} {q r l c t : Nat} {bs : List Nat} (h : Rd w q r l c bs t) (n : Nat) : Rd (w.drewN n) q r l c bs t :=
  ⟨h.qr, h.qw, h.c0, h.c1, h.c2, h.f1, h.bytes, h.tl, h.lb⟩
theorem Step.drewN {q : Nat} {w : World} (n : Nat) : Step q none w (w.drewN n) := ⟨rfl, rfl, rfl, Nat.le_refl _, fun _ _ _ _ => rfl⟩

theorem or_double {m b : Nat} (hm : m < 9223372036854775808) (hb : b < 2) : bits .or .u64 ((m : Int) * 2) (b : Int) = ((m * 2 + b : Nat) : Int) := by
  have e : (m : Int) * 2 = ((m * 2 : Nat) : Int) := by omega
  rw [e, u64_or_nat _ _ (by omega) (by omega), nat_join 1 _ _ (by omega) (by omega)]
theorem part_lt (bs : List Nat) (t k : Nat) : part bs t k < 2 ^ k := Nat.mod_lt _ (Nat.two_pow_pos k)

/-- what holds at each round of Get -/
def GetRel (q r l c : Nat) (bs : List Nat) (t k : Nat) (w : World) (n i : Value) (wr : World) : Prop :=
  ∃ j : Nat, j ≤ k ∧ i = .int .i64 (j : Int) ∧ n = .int .u64 ((part bs t j : Nat) : Int) ∧ Rd wr q r l c bs (t + j) ∧ Step q none w wr

set_option maxHeartbeats 400000 in
theorem get_any (q r l c t k : Nat) (bs : List Nat) (w : World) (h : Rd w q r l c bs t) (hk : k ≤ 64) (ht : t + k ≤ 8 * l) :
    Calls Tryd.prog 20 #[.pointer (some ⟨q, 0, none⟩), .int .i64 (k : Int)] w (TakePost q r l c bs (t + k) (.int .u64 ((part bs t k : Nat) : Int)) w) := by
  have H := Lib.hid h
  have hl : bs.length = l := h.bytes.1.symm
  have HL := Lib.hid hl
  clear h hl
  go_enter Tryd.func20, Tryd.ntmps20
  go_wp2_with fail
  refine (err_any _ _ _ _ _ _ _ H.out).mono ?_
  rintro e w' ⟨rfl, rfl⟩
  go_wp2_with fail
  refine (within_any _ _ (by omega) (by omega)).mono ?_
  rintro e w' ⟨rfl, rfl⟩
  go_wp2_with fail
  refine (left_any _ _ _ _ _ _ _ H.out).mono ?_
  rintro e w' ⟨rfl, n0, rfl⟩
  have hle : (k : Int) ≤ (l : Int) * 8 - (t : Int) := by omega
  have R0 : Hid (GetRel q r l c bs t k w (.int .u64 0) (.int .i64 0) (w.drewN n0)) :=
    ⟨0, Nat.zero_le _, rfl, by unfold part; simp [Nat.mod_one], H.out.drewN n0, Step.drewN n0⟩
  clear H
  go_wp2_with fail
  go_loopw [5, 22] (fun n i wr => GetRel q r l c bs t k w n i wr) (fun _ i _ => k - (intOf i).toNat)
  case atStart => exact R0.out
  case round =>
    obtain ⟨j, hj, rfl, rfl, q1, q2⟩ := hrel
    by_cases hlt : j < k
    · have Q1 := Lib.hid q1
      have Q2 := Lib.hid q2
      have hm : part bs t j < 9223372036854775808 := by
        have h1 := part_lt bs t j
        have h2 : 2 ^ j ≤ 2 ^ 63 := Nat.pow_le_pow_right (by decide) (by omega)
        omega
      have h2 : part bs (t + j) 1 < 2 := part_lt bs (t + j) 1
      have hor := or_double hm h2
      have hs := part_succ bs t j (by have := HL.out; omega)
      have HS := Lib.hid hs
      obtain ⟨m, hm'⟩ : ∃ m, part bs t j = m := ⟨_, rfl⟩
      obtain ⟨b, hb'⟩ : ∃ b, part bs (t + j) 1 = b := ⟨_, rfl⟩
      rw [hm', hb'] at hor
      rw [hm'] at hm
      have HM := Lib.hid hm'
      have HBB := Lib.hid hb'
      clear q1 q2 hs hm' hb' h2
      rw [HM.out]
      go_wp2_with fail
      refine (next_any _ _ _ _ _ _ _ Q1.out (by omega)).mono ?_
      rintro e w' ⟨rfl, r1, r2⟩
      have R : Hid (GetRel q r l c bs t k w (.int .u64 ((m * 2 + b : Nat) : Int)) (.int .i64 ((j : Int) + 1)) w') :=
        ⟨j + 1, by omega, ret_val (by omega), by rw [HS.out, HM.out, HBB.out], r1, Q2.out.trans0 r2⟩
      rw [HBB.out]
      clear r1 r2
      go_wp2_with fail
      go_roundw
      case rel => exact R.out
      case measure => simp [intOf]; omega
    · obtain rfl : j = k := by omega
      have Q : Hid (TakePost q r l c bs (t + j) (.int .u64 ((part bs t j : Nat) : Int)) w (.returned (.int .u64 ((part bs t j : Nat) : Int))) wr) := ⟨rfl, q1, q2⟩
      clear q1 q2
      go_wp2_with fail
      go_ret
      exact Q.out
end Go.Proofs.YtdnihkmdigmnoaaDoor
