import Derived.Test.YtakomfnajeolcaaGreatDoorCtA1
import Derived.BigRegion
import Derived.ArgAppend
import Derived.Laws.BitsAllLaws
set_option linter.unusedVariables false
/- A reader's bits as numbers, what a call may turn, and the contracts of classOf and within: for reads of any bytes. -/
namespace Go.Proofs.YtakomfnajeolcaaGreatDoor.Tk
open Go.RowKit

def val (bs : List Nat) : Nat := bs.foldl (fun a b => a * 256 + b) 0
theorem val_snoc (bs : List Nat) (b : Nat) : val (bs ++ [b]) = val bs * 256 + b := by
  unfold val
  rw [List.foldl_append]
  rfl
structure Step (p : Nat) (r : Option Nat) (w w' : World) : Prop where
  os : w'.os = w.os
  tape : w'.tape = w.tape
  output : w'.output = w.output
  size : w.heap.size ≤ w'.heap.size
  block : ∀ k, k < w.heap.size → k ≠ p → r ≠ some k → w'.heap[k]? = w.heap[k]?

theorem Step.refl (p : Nat) (r : Option Nat) (w : World) : Step p r w w := ⟨rfl, rfl, rfl, Nat.le_refl _, fun _ _ _ _ => rfl⟩
theorem within_any (k : Int) (w : World) (k0 : 0 ≤ k) (k1 : k ≤ 64) :
    Calls Tryz.prog 87 #[.int .i64 k] w fun e w' => e = .returned (.int .i64 k) ∧ w = w' := by
  have h1 : max k 0 = k := by omega
  have h2 : min k 64 = k := by omega
  go_enter Tryz.func87, Tryz.ntmps87
  go_wp2
  go_ret
  exact ⟨ret_int (by omega), rfl⟩

theorem mod_two_succ (y i : Nat) : y % 2 ^ (i + 1) = y / 2 % 2 ^ i * 2 + y % 2 := by
  have h := Nat.mod_mul (x := y) (a := 2) (b := 2 ^ i)
  rw [Nat.pow_succ, Nat.mul_comm (2 ^ i) 2, h]
  omega
/-- the classes' widths lie in the variable's own block -/
def Tab (w : World) : Prop :=
  w.cell? ⟨0, 0, none⟩ = some (.int .i64 0) ∧ w.cell? ⟨0, 1, none⟩ = some (.int .i64 3) ∧ w.cell? ⟨0, 2, none⟩ = some (.int .i64 7) ∧ w.cell? ⟨0, 3, none⟩ = some (.int .i64 12) ∧
    w.cell? ⟨0, 4, none⟩ = some (.int .i64 20) ∧ w.cell? ⟨0, 5, none⟩ = some (.int .i64 32) ∧ w.cell? ⟨0, 6, none⟩ = some (.int .i64 64)

def cls (x : Nat) : Nat := if x < 1 then 0 else if x < 8 then 1 else if x < 128 then 2 else if x < 4096 then 3 else if x < 1048576 then 4 else if x < 4294967296 then 5 else 6

theorem class_0 (x : Nat) (w : World) (hT : Tab w) (h0 : 0 ≤ x) (h1 : x < 1) :
    Calls Tryz.prog 57 #[.int .u64 (x : Int)] w fun e w' => e = .returned (.int .i64 0) ∧ w = w' := by
  obtain ⟨t0, t1, t2, t3, t4, t5, t6⟩ := hT
  have u3 : ((x : Int) / 4096 != 0) = false := by simp; omega
  have u1 : ((x : Int) / 8 != 0) = false := by simp; omega
  have u0 : ((x : Int) != 0) = false := by simp; omega
  go_enter Tryz.func57, Tryz.ntmps57
  go_wp2
  refine wp_loop_rounds 4 ?_
  rw [rounds_succ]
  go_wp2
  rw [rounds_succ]
  go_wp2
  rw [rounds_succ]
  go_wp2
  rw [rounds_succ]
  go_wp2
  go_ret
  exact ⟨rfl, rfl⟩
theorem class_1 (x : Nat) (w : World) (hT : Tab w) (h0 : 1 ≤ x) (h1 : x < 8) :
    Calls Tryz.prog 57 #[.int .u64 (x : Int)] w fun e w' => e = .returned (.int .i64 1) ∧ w = w' := by
  obtain ⟨t0, t1, t2, t3, t4, t5, t6⟩ := hT
  have u3 : ((x : Int) / 4096 != 0) = false := by simp; omega
  have u1 : ((x : Int) / 8 != 0) = false := by simp; omega
  have u0 : ((x : Int) != 0) = true := by simp; omega
  go_enter Tryz.func57, Tryz.ntmps57
  go_wp2
  refine wp_loop_rounds 4 ?_
  rw [rounds_succ]
  go_wp2
  rw [rounds_succ]
  go_wp2
  rw [rounds_succ]
  go_wp2
  rw [rounds_succ]
  go_wp2
  go_ret
  exact ⟨rfl, rfl⟩
theorem class_2 (x : Nat) (w : World) (hT : Tab w) (h0 : 8 ≤ x) (h1 : x < 128) :
    Calls Tryz.prog 57 #[.int .u64 (x : Int)] w fun e w' => e = .returned (.int .i64 2) ∧ w = w' := by
  obtain ⟨t0, t1, t2, t3, t4, t5, t6⟩ := hT
  have u3 : ((x : Int) / 4096 != 0) = false := by simp; omega
  have u1 : ((x : Int) / 8 != 0) = true := by simp; omega
  have u2 : ((x : Int) / 128 != 0) = false := by simp; omega
  go_enter Tryz.func57, Tryz.ntmps57
  go_wp2
  refine wp_loop_rounds 4 ?_
  rw [rounds_succ]
  go_wp2
  rw [rounds_succ]
  go_wp2
  rw [rounds_succ]
  go_wp2
  rw [rounds_succ]
  go_wp2
  go_ret
  exact ⟨rfl, rfl⟩
theorem class_3 (x : Nat) (w : World) (hT : Tab w) (h0 : 128 ≤ x) (h1 : x < 4096) :
    Calls Tryz.prog 57 #[.int .u64 (x : Int)] w fun e w' => e = .returned (.int .i64 3) ∧ w = w' := by
  obtain ⟨t0, t1, t2, t3, t4, t5, t6⟩ := hT
  have u3 : ((x : Int) / 4096 != 0) = false := by simp; omega
  have u1 : ((x : Int) / 8 != 0) = true := by simp; omega
  have u2 : ((x : Int) / 128 != 0) = true := by simp; omega
  go_enter Tryz.func57, Tryz.ntmps57
  go_wp2
  refine wp_loop_rounds 4 ?_
  rw [rounds_succ]
  go_wp2
  rw [rounds_succ]
  go_wp2
  rw [rounds_succ]
  go_wp2
  rw [rounds_succ]
  go_wp2
  go_ret
  exact ⟨rfl, rfl⟩
theorem class_4 (x : Nat) (w : World) (hT : Tab w) (h0 : 4096 ≤ x) (h1 : x < 1048576) :
    Calls Tryz.prog 57 #[.int .u64 (x : Int)] w fun e w' => e = .returned (.int .i64 4) ∧ w = w' := by
  obtain ⟨t0, t1, t2, t3, t4, t5, t6⟩ := hT
  have u3 : ((x : Int) / 4096 != 0) = true := by simp; omega
  have u5 : ((x : Int) / 4294967296 != 0) = false := by simp; omega
  have u4 : ((x : Int) / 1048576 != 0) = false := by simp; omega
  go_enter Tryz.func57, Tryz.ntmps57
  go_wp2
  refine wp_loop_rounds 4 ?_
  rw [rounds_succ]
  go_wp2
  rw [rounds_succ]
  go_wp2
  rw [rounds_succ]
  go_wp2
  rw [rounds_succ]
  go_wp2
  go_ret
  exact ⟨rfl, rfl⟩
theorem class_5 (x : Nat) (w : World) (hT : Tab w) (h0 : 1048576 ≤ x) (h1 : x < 4294967296) :
    Calls Tryz.prog 57 #[.int .u64 (x : Int)] w fun e w' => e = .returned (.int .i64 5) ∧ w = w' := by
  obtain ⟨t0, t1, t2, t3, t4, t5, t6⟩ := hT
  have u3 : ((x : Int) / 4096 != 0) = true := by simp; omega
  have u5 : ((x : Int) / 4294967296 != 0) = false := by simp; omega
  have u4 : ((x : Int) / 1048576 != 0) = true := by simp; omega
  go_enter Tryz.func57, Tryz.ntmps57
  go_wp2
  refine wp_loop_rounds 4 ?_
  rw [rounds_succ]
  go_wp2
  rw [rounds_succ]
  go_wp2
  rw [rounds_succ]
  go_wp2
  rw [rounds_succ]
  go_wp2
  go_ret
  exact ⟨rfl, rfl⟩
theorem class_6 (x : Nat) (w : World) (hT : Tab w) (h0 : 4294967296 ≤ x) (h1 : x ≤ 18446744073709551615) :
    Calls Tryz.prog 57 #[.int .u64 (x : Int)] w fun e w' => e = .returned (.int .i64 6) ∧ w = w' := by
  obtain ⟨t0, t1, t2, t3, t4, t5, t6⟩ := hT
  have u3 : ((x : Int) / 4096 != 0) = true := by simp; omega
  have u5 : ((x : Int) / 4294967296 != 0) = true := by simp; omega
  go_enter Tryz.func57, Tryz.ntmps57
  go_wp2
  refine wp_loop_rounds 4 ?_
  rw [rounds_succ]
  go_wp2
  rw [rounds_succ]
  go_wp2
  rw [rounds_succ]
  go_wp2
  go_ret
  exact ⟨rfl, rfl⟩
theorem Tab.step {p : Nat} {r : Option Nat} {w w' : World} (h : Tab w) (s : Step p r w w') (hz : 0 < w.heap.size) (hp : p ≠ 0) (hr : r ≠ some 0) : Tab w' := by
  have hb := s.block 0 hz (fun h => hp h.symm) hr
  have hc : ∀ j, w'.cell? ⟨0, j, none⟩ = w.cell? ⟨0, j, none⟩ := fun j => World.cell?_of_block hb
  unfold Tab
  rw [hc, hc, hc, hc, hc, hc, hc]
  exact h
theorem Tab.below {w w' : World} (h : Tab w) (hb : Below w.heap.size w w') (hz : 0 < w.heap.size) : Tab w' := by
  have hc : ∀ j, w'.cell? ⟨0, j, none⟩ = w.cell? ⟨0, j, none⟩ := fun j => hb.cell (p := ⟨0, j, none⟩) hz
  unfold Tab
  rw [hc, hc, hc, hc, hc, hc, hc]
  exact h
theorem Tab.pos {w : World} (h : Tab w) : 0 < w.heap.size := by
  by_cases hz : 0 < w.heap.size
  · exact hz
  · have := h.1
    simp [World.cell?, show w.heap.size = 0 by omega] at this

theorem class_any (x : Nat) (w : World) (hT : Tab w) (h1 : x ≤ 18446744073709551615) :
    Calls Tryz.prog 57 #[.int .u64 (x : Int)] w fun e w' => e = .returned (.int .i64 ((cls x : Nat) : Int)) ∧ w = w' := by
  unfold cls
  split
  · exact class_0 x w hT (by omega) (by omega)
  split
  · exact class_1 x w hT (by omega) (by omega)
  split
  · exact class_2 x w hT (by omega) (by omega)
  split
  · exact class_3 x w hT (by omega) (by omega)
  split
  · exact class_4 x w hT (by omega) (by omega)
  split
  · exact class_5 x w hT (by omega) (by omega)
  · exact class_6 x w hT (by omega) (by omega)
end Go.Proofs.YtakomfnajeolcaaGreatDoor.Tk


/- What a reader of any bytes holds, its errors too, by a plain model (getF, bitF, ..), and the contracts of next, Err, Left, fail, Get and Bit. -/
namespace Go.Proofs.YtakomfnajeolcaaGreatDoor.Tk
open Go.RowKit

/-- a bit of a byte is a bit of the whole number -/
theorem val_bit : ∀ (n : Nat) (bs : List Nat) (i b : Nat), bs.length = n → (∀ b ∈ bs, b < 256) → bs[i / 8]? = some b → b / 2 ^ (7 - i % 8) % 2 = val bs / 2 ^ (8 * bs.length - 1 - i) % 2
  | 0, bs, i, b, h1, _, hb => by rw [List.length_eq_zero_iff.mp h1] at hb; simp at hb
  | n + 1, bs, i, b, h1, hx, hb => by
    have nx : bs ≠ [] := by intro h; rw [h] at h1; simp at h1
    have ex := (List.dropLast_concat_getLast nx).symm
    generalize bs.dropLast = cs at ex
    generalize bs.getLast nx = c at ex
    subst ex
    have hcl : cs.length = n := by simpa using h1
    have hc : c < 256 := hx c (by simp)
    rw [val_snoc]
    have hlen : (cs ++ [c]).length = n + 1 := h1
    rw [hlen]
    obtain ⟨hi, _⟩ := List.getElem?_eq_some_iff.mp hb
    rw [hlen] at hi
    by_cases hlast : i / 8 = n
    · have hbc : b = c := by
        rw [hlast, ← hcl] at hb
        simpa using hb.symm
      subst hbc
      have he : 8 * (n + 1) - 1 - i = 7 - i % 8 := by omega
      rw [he]
      have hk : 7 - i % 8 ≤ 7 := by omega
      generalize 7 - i % 8 = k at hk
      have h256 : val cs * 256 = val cs * 2 ^ (8 - k) * 2 ^ k := by
        rw [Nat.mul_assoc, ← Nat.pow_add, show 8 - k + k = 8 by omega]
      rw [h256, Nat.add_comm, Nat.add_mul_div_right _ _ (Nat.two_pow_pos k)]
      have h2 : val cs * 2 ^ (8 - k) = val cs * 2 ^ (7 - k) * 2 := by rw [show 8 - k = 7 - k + 1 by omega, Nat.pow_succ, Nat.mul_assoc]
      rw [h2]
      omega
    · have hin : i / 8 < cs.length := by omega
      rw [List.getElem?_append_left hin] at hb
      have ih := val_bit n cs i b hcl (fun b hb => hx b (by simp [hb])) hb
      rw [ih, hcl]
      have he : 8 * (n + 1) - 1 - i = 8 + (8 * n - 1 - i) := by omega
      rw [he, Nat.pow_add, ← Nat.div_div_eq_div_mul]
      have h3 : (val cs * 256 + c) / 2 ^ 8 = val cs := by omega
      rw [h3]

/-- the reader at block q reads the bytes bs that lie at a, from bit s.1 on; what is wrong is s.2 -/
structure Rd (w : World) (q : Nat) (a : Option Addr) (l c : Nat) (bs : List Nat) (s : Nat × Int) : Prop where
  qw : q < w.heap.size
  c0 : w.cell? ⟨q, 0, none⟩ = some (.slice a l c)
  c1 : w.cell? ⟨q, 1, none⟩ = some (.int .i64 (s.1 : Int))
  c2 : w.cell? ⟨q, 2, none⟩ = some (.int .i64 s.2)
  f1 : w.frozen? ⟨q, 1, none⟩ = false
  f2 : w.frozen? ⟨q, 2, none⟩ = false
  len : l = bs.length
  byte : ∀ b ∈ bs, b < 256
  lies : 0 < l → ∃ r o, a = some ⟨r, o, none⟩ ∧ r ≠ q ∧ ∀ (j : Nat) (b : Nat), bs[j]? = some b → w.cell? ⟨r, o + j, none⟩ = some (.int .u8 (b : Int))
  tl : s.1 ≤ 8 * l
  lb : l ≤ 1000000

theorem Rd.drewN {w : World} {q l c : Nat} {a : Option Addr} {bs : List Nat} {s : Nat × Int} (h : Rd w q a l c bs s) (n : Nat) : Rd (w.drewN n) q a l c bs s :=
  ⟨h.qw, h.c0, h.c1, h.c2, h.f1, h.f2, h.len, h.byte, h.lies, h.tl, h.lb⟩
theorem Step.drewN {q : Nat} {w : World} (n : Nat) : Step q none w (w.drewN n) := ⟨rfl, rfl, rfl, Nat.le_refl _, fun _ _ _ _ => rfl⟩
theorem Step.trans0 {q : Nat} {w w1 w2 : World} (h : Step q none w w1) (k : Step q none w1 w2) : Step q none w w2 :=
  ⟨k.os.trans h.os, k.tape.trans h.tape, k.output.trans h.output, Nat.le_trans h.size k.size, fun j hj hp hr => (k.block j (Nat.lt_of_lt_of_le hj h.size) hp hr).trans (h.block j hj hp hr)⟩

theorem Rd.moved {w w' : World} {q l c : Nat} {a : Option Addr} {bs : List Nat} {s s' : Nat × Int} (h : Rd w q a l c bs s) (hs : w.heap.size ≤ w'.heap.size) (hb : ∀ k, k < w.heap.size → k ≠ q → w'.heap[k]? = w.heap[k]?)
    (c0 : w'.cell? ⟨q, 0, none⟩ = w.cell? ⟨q, 0, none⟩) (c1 : w'.cell? ⟨q, 1, none⟩ = some (.int .i64 (s'.1 : Int))) (c2 : w'.cell? ⟨q, 2, none⟩ = some (.int .i64 s'.2)) (f1 : w'.frozen? ⟨q, 1, none⟩ = false) (f2 : w'.frozen? ⟨q, 2, none⟩ = false) (ht : s'.1 ≤ 8 * l) : Rd w' q a l c bs s' := by
  refine ⟨Nat.lt_of_lt_of_le h.qw hs, c0.trans h.c0, c1, c2, f1, f2, h.len, h.byte, fun h0 => ?_, ht, h.lb⟩
  obtain ⟨r, o, e, hr, hc⟩ := h.lies h0
  refine ⟨r, o, e, hr, fun j b hj => ?_⟩
  have hcc := hc j b hj
  have hlt : r < w.heap.size := block_lt_of_cell hcc
  exact (World.cell?_of_block (hb r hlt hr)).trans hcc

/-- the reader's cell of taken bits set -/
theorem Rd.taken {w : World} {q l c : Nat} {a : Option Addr} {bs : List Nat} {s : Nat × Int} (h : Rd w q a l c bs s) (u : Nat) (hu : u ≤ 8 * l) (n : Nat) (U : Int) (hU : U = (u : Int)) :
    Rd ((w.drewN n).setCell ⟨q, 1, none⟩ (.int .i64 U)) q a l c bs (u, s.2) ∧ Step q none w ((w.drewN n).setCell ⟨q, 1, none⟩ (.int .i64 U)) := by
  subst hU
  have hb : ∀ k, k < w.heap.size → k ≠ q → ((w.drewN n).setCell ⟨q, 1, none⟩ (.int .i64 (u : Int))).heap[k]? = w.heap[k]? := fun k _ hk => Below.heap_setCell (w.drewN n) ⟨q, 1, none⟩ _ k hk
  have c1 : (w.drewN n).cell? ⟨q, 1, none⟩ = some (.int .i64 (s.1 : Int)) := h.c1
  have f1 : (w.drewN n).frozen? ⟨q, 1, none⟩ = false := h.f1
  have f2 : (w.drewN n).frozen? ⟨q, 2, none⟩ = false := h.f2
  refine ⟨h.moved (by simp [World.drewN]) hb ?_ ?_ ?_ ?_ ?_ hu, rfl, rfl, rfl, by simp [World.drewN], fun k hk hq _ => hb k hk hq⟩
  · rw [World.cell?_setCell_other _ _ _ _ (by simp)]; rfl
  · simp [go_sem, c1]
  · rw [World.cell?_setCell_other _ _ _ _ (by simp)]; exact h.c2
  · simp [go_sem, f1]
  · simp [go_sem, f2]

/-- the reader's cell of what is wrong set -/
theorem Rd.wronged {w : World} {q l c : Nat} {a : Option Addr} {bs : List Nat} {s : Nat × Int} (h : Rd w q a l c bs s) (e : Int) :
    Rd (w.setCell ⟨q, 2, none⟩ (.int .i64 e)) q a l c bs (s.1, e) ∧ Step q none w (w.setCell ⟨q, 2, none⟩ (.int .i64 e)) := by
  have hb : ∀ k, k < w.heap.size → k ≠ q → (w.setCell ⟨q, 2, none⟩ (.int .i64 e)).heap[k]? = w.heap[k]? := fun k _ hk => Below.heap_setCell w ⟨q, 2, none⟩ _ k hk
  have c2 := h.c2
  have f1 := h.f1
  have f2 := h.f2
  refine ⟨h.moved (by simp) hb ?_ ?_ ?_ ?_ ?_ h.tl, rfl, rfl, rfl, by simp, fun k hk hq _ => hb k hk hq⟩
  · rw [World.cell?_setCell_other _ _ _ _ (by simp)]
  · rw [World.cell?_setCell_other _ _ _ _ (by simp)]; exact h.c1
  · simp [go_sem, c2]
  · simp [go_sem, f1]
  · simp [go_sem, f2]

/-- what taking leaves: only the reader's own block may have turned -/
def TakePost (q : Nat) (a : Option Addr) (l c : Nat) (bs : List Nat) (v : Value) (s : Nat × Int) (w : World) (e : Ending) (w' : World) : Prop :=
  e = .returned v ∧ Rd w' q a l c bs s ∧ Step q none w w'

/-- the number that k bits from t on are -/
def part (bs : List Nat) (t k : Nat) : Nat := val bs / 2 ^ (8 * bs.length - t - k) % 2 ^ k

theorem part_one (bs : List Nat) (t : Nat) : part bs t 1 = val bs / 2 ^ (8 * bs.length - 1 - t) % 2 := by
  unfold part
  rw [show 8 * bs.length - t - 1 = 8 * bs.length - 1 - t by omega]
theorem part_succ (bs : List Nat) (t k : Nat) (h : t + k < 8 * bs.length) : part bs t (k + 1) = part bs t k * 2 + part bs (t + k) 1 := by
  unfold part
  generalize 8 * bs.length = M at *
  have e1 : M - t - (k + 1) = M - (t + k) - 1 := by omega
  have e2 : val bs / 2 ^ (M - t - k) = val bs / 2 ^ (M - (t + k) - 1) / 2 := by
    rw [Nat.div_div_eq_div_mul, ← Nat.pow_succ, show (M - (t + k) - 1).succ = M - t - k by omega]
  rw [e1, e2, mod_two_succ]

theorem u8_and_one {x : Int} (h0 : 0 ≤ x) (h1 : x < 256) : bits .and .u8 x 1 = x % 2 := by
  obtain ⟨a, rfl⟩ := Int.eq_ofNat_of_zero_le h0
  rw [show (1 : Int) = ((1 : Nat) : Int) from rfl, u8_and_nat _ _ (by omega) (by decide), Nat.and_one_is_mod]
  omega

theorem or_double {m b : Nat} (hm : m < 9223372036854775808) (hb : b < 2) : bits .or .u64 ((m : Int) * 2) (b : Int) = ((m * 2 + b : Nat) : Int) := by
  have e : (m : Int) * 2 = ((m * 2 : Nat) : Int) := by omega
  rw [e, u64_or_nat _ _ (by omega) (by omega), nat_join 1 _ _ (by omega) (by omega)]
theorem part_lt (bs : List Nat) (t k : Nat) : part bs t k < 2 ^ k := Nat.mod_lt _ (Nat.two_pow_pos k)

theorem next_any (q l c : Nat) (a : Option Addr) (bs : List Nat) (s : Nat × Int) (w : World) (h : Rd w q a l c bs s) (ht : s.1 < 8 * l) :
    Calls Tryz.prog 112 #[.pointer (some ⟨q, 0, none⟩)] w (TakePost q a l c bs (.int .u64 ((part bs s.1 1 : Nat) : Int)) (s.1 + 1, s.2) w) := by
  have H := Lib.hid h
  obtain ⟨t, sw⟩ := s
  obtain ⟨qw, c0, c1, c2, f1, f2, b1, b2, b3, tl, lb⟩ := h
  dsimp only at c1 c2 ht tl ⊢
  obtain ⟨r, o, rfl, qr, b3⟩ := b3 (by omega)
  have hk : t / 8 < bs.length := by omega
  obtain ⟨b, hb⟩ : ∃ b, bs[t / 8]? = some b := ⟨_, List.getElem?_eq_getElem hk⟩
  have kb := b3 _ _ hb
  have hb256 : b < 256 := b2 b (List.mem_of_getElem? hb)
  have hv := val_bit _ bs t b rfl b2 hb
  have hti : (t : Int) / 8 < (l : Int) := by omega
  have ht8 : (t : Int) % 8 < 8 := by omega
  obtain ⟨X, hX⟩ : ∃ X, bits .and .u8 ((b : Int) / 2 ^ (7 - t % 8)) 1 = X := ⟨_, rfl⟩
  have hX' : X = ((part bs t 1 : Nat) : Int) := by
    have e : ((b : Int) / 2 ^ (7 - t % 8)) = ((b / 2 ^ (7 - t % 8) : Nat) : Int) := by simp
    have hd : b / 2 ^ (7 - t % 8) ≤ b := Nat.div_le_self _ _
    rw [← hX, e, part_one, ← hv]
    generalize b / 2 ^ (7 - t % 8) = y at *
    rw [u8_and_one (by omega) (by omega)]
    omega
  have X0 : 0 ≤ X := by omega
  have X1 : X ≤ 1 := by
    have : part bs t 1 < 2 := by rw [part_one]; omega
    omega
  have HX := Lib.hid hX'
  clear hX' hv b1 b2 b3 hb
  go_enter Tryz.func112, Tryz.ntmps112
  go_wp2_with fail
  go_quiet (fail)
  go_wp2_with fail
  go_ret
  obtain ⟨r1, r2⟩ := H.out.taken (t + 1) (by omega) nq ((t : Int) + 1) (by omega)
  exact ⟨ret_int HX.out, r1, r2⟩

theorem err_any (q l c : Nat) (a : Option Addr) (bs : List Nat) (s : Nat × Int) (w : World) (h : Rd w q a l c bs s) :
    Calls Tryz.prog 96 #[.pointer (some ⟨q, 0, none⟩)] w fun e w' => e = .returned (.int .i64 s.2) ∧ w = w' := by
  have c2 := h.c2
  clear h
  go_enter Tryz.func96, Tryz.ntmps96
  go_wp2
  go_ret
  exact ⟨rfl, rfl⟩

theorem left_any (q l c : Nat) (a : Option Addr) (bs : List Nat) (s : Nat × Int) (w : World) (h : Rd w q a l c bs s) :
    Calls Tryz.prog 111 #[.pointer (some ⟨q, 0, none⟩)] w fun e w' => e = .returned (.int .i64 ((l : Int) * 8 - (s.1 : Int))) ∧ ∃ n, w' = w.drewN n := by
  obtain ⟨t, sw⟩ := s
  have c0 := h.c0
  have c1 := h.c1
  have tl := h.tl
  have lb := h.lb
  dsimp only at c1 tl ⊢
  have w1 : IntKind.i64.wrap ((l : Int) * 8) = (l : Int) * 8 := IntWalk.i64_in _ (by omega)
  have w2 : IntKind.i64.wrap ((l : Int) * 8 - (t : Int)) = (l : Int) * 8 - (t : Int) := IntWalk.i64_in _ (by omega)
  clear h
  go_enter Tryz.func111, Tryz.ntmps111
  go_wp2
  go_quiet (fail)
  go_wp2
  go_ret
  exact ⟨rfl, _, rfl⟩

theorem fail_any (q l c u : Nat) (a : Option Addr) (bs : List Nat) (s : Nat × Int) (x : Int) (w : World) (h : Rd w q a l c bs s) (hu : u ≤ 8 * l) :
    Calls Tryz.prog 98 #[.pointer (some ⟨q, 0, none⟩), .int .i64 (u : Int), .int .i64 x] w fun e w' => e = .returned (.tuple #[]) ∧ Rd w' q a l c bs (u, x) ∧ Step q none w w' := by
  have H := Lib.hid h
  obtain ⟨r1, r2⟩ := h.taken u hu 0 (u : Int) rfl
  rw [show w.drewN 0 = w from rfl] at r1 r2
  obtain ⟨r3, r4⟩ := r1.wronged x
  have c1 := h.c1
  have c2 := h.c2
  have f1 := h.f1
  have f2 := h.f2
  have R : Hid (Rd ((w.setCell ⟨q, 1, none⟩ (.int .i64 (u : Int))).setCell ⟨q, 2, none⟩ (.int .i64 x)) q a l c bs (u, x) ∧ Step q none w ((w.setCell ⟨q, 1, none⟩ (.int .i64 (u : Int))).setCell ⟨q, 2, none⟩ (.int .i64 x))) := ⟨r3, r2.trans0 r4⟩
  clear r1 r2 r3 r4 h
  go_enter Tryz.func98, Tryz.ntmps98
  go_wp2_with fail
  go_end0
  exact ⟨rfl, R.out⟩
end Go.Proofs.YtakomfnajeolcaaGreatDoor.Tk


/- A reader's Get, Bit, class, Count, Int, Small on any bytes: they return what the plain model (getF, clsF, countF, smallF) says. -/
namespace Go.Proofs.YtakomfnajeolcaaGreatDoor.Tk
open Go.RowKit

/-- so many bits taken: the number, and where the reader stands then -/
def getF (bs : List Nat) (k : Nat) (s : Nat × Int) : Nat × (Nat × Int) :=
  if s.2 ≠ 0 then (0, s) else if s.1 + k ≤ 8 * bs.length then (part bs s.1 k, (s.1 + k, 0)) else (0, (s.1, 7))

/-- what holds at each round of Get -/
def GetRel (q l c : Nat) (a : Option Addr) (bs : List Nat) (t k : Nat) (w : World) (n i : Value) (wr : World) : Prop :=
  ∃ j : Nat, j ≤ k ∧ i = .int .i64 (j : Int) ∧ n = .int .u64 ((part bs t j : Nat) : Int) ∧ Rd wr q a l c bs (t + j, 0) ∧ Step q none w wr

theorem get_ok (q l c k t : Nat) (a : Option Addr) (bs : List Nat) (w : World) (h : Rd w q a l c bs (t, 0)) (hk : k ≤ 64) (ht : t + k ≤ 8 * l) :
    Calls Tryz.prog 93 #[.pointer (some ⟨q, 0, none⟩), .int .i64 (k : Int)] w (TakePost q a l c bs (.int .u64 ((part bs t k : Nat) : Int)) (t + k, 0) w) := by
  have H := Lib.hid h
  have hl : bs.length = l := h.len.symm
  have HL := Lib.hid hl
  clear h hl
  go_enter Tryz.func93, Tryz.ntmps93
  go_wp2_with fail
  refine (err_any _ _ _ _ _ _ _ H.out).mono ?_
  rintro e w' ⟨rfl, rfl⟩
  go_wp2_with fail
  refine (within_any _ _ (by omega) (by omega)).mono ?_
  rintro e w' ⟨rfl, rfl⟩
  go_wp2_with fail
  refine (left_any _ _ _ _ _ _ _ H.out).mono ?_
  rintro e w' ⟨rfl, n0, rfl⟩
  have hle : (k : Int) ≤ (l : Int) * 8 - (t : Int) := by omega
  have R0 : Hid (GetRel q l c a bs t k w (.int .u64 0) (.int .i64 0) (w.drewN n0)) :=
    ⟨0, Nat.zero_le _, rfl, by unfold part; simp [Nat.mod_one], H.out.drewN n0, Step.drewN n0⟩
  clear H
  go_wp2_with fail
  go_loopw [5, 22] (fun n i wr => GetRel q l c a bs t k w n i wr) (fun _ i _ => k - (intOf i).toNat)
  case atStart => exact R0.out
  case round =>
    obtain ⟨j, hj, rfl, rfl, q1, q2⟩ := hrel
    by_cases hlt : j < k
    · have Q1 := Lib.hid q1
      have Q2 := Lib.hid q2
      have hm : part bs t j < 9223372036854775808 := by
        have h1 := part_lt bs t j
        have h2 : 2 ^ j ≤ 2 ^ 63 := Nat.pow_le_pow_right (by decide) (by omega)
        omega
      have h2 : part bs (t + j) 1 < 2 := part_lt bs (t + j) 1
      have hor := or_double hm h2
      have hs := part_succ bs t j (by have := HL.out; omega)
      have HS := Lib.hid hs
      obtain ⟨m, hm'⟩ : ∃ m, part bs t j = m := ⟨_, rfl⟩
      obtain ⟨b, hb'⟩ : ∃ b, part bs (t + j) 1 = b := ⟨_, rfl⟩
      rw [hm', hb'] at hor
      rw [hm'] at hm
      have HM := Lib.hid hm'
      have HBB := Lib.hid hb'
      clear q1 q2 hs hm' hb' h2
      rw [HM.out]
      go_wp2_with fail
      refine (next_any _ _ _ _ _ _ _ Q1.out (by simp only; omega)).mono ?_
      rintro e w' ⟨rfl, r1, r2⟩
      have R : Hid (GetRel q l c a bs t k w (.int .u64 ((m * 2 + b : Nat) : Int)) (.int .i64 ((j : Int) + 1)) w') :=
        ⟨j + 1, by omega, ret_val (by omega), by rw [HS.out, HM.out, HBB.out], r1, Q2.out.trans0 r2⟩
      simp only [HBB.out]
      clear r1 r2
      go_wp2_with fail
      go_roundw
      case rel => exact R.out
      case measure => simp [intOf]; omega
    · obtain rfl : j = k := by omega
      have Q : Hid (TakePost q a l c bs (.int .u64 ((part bs t j : Nat) : Int)) (t + j, 0) w (.returned (.int .u64 ((part bs t j : Nat) : Int))) wr) := ⟨rfl, q1, q2⟩
      clear q1 q2
      go_wp2_with fail
      go_ret
      exact Q.out

theorem get_short (q l c k t : Nat) (a : Option Addr) (bs : List Nat) (w : World) (h : Rd w q a l c bs (t, 0)) (hk : k ≤ 64) (ht : ¬ t + k ≤ 8 * l) :
    Calls Tryz.prog 93 #[.pointer (some ⟨q, 0, none⟩), .int .i64 (k : Int)] w (TakePost q a l c bs (.int .u64 0) (t, 7) w) := by
  have H := Lib.hid h
  have htl : t ≤ 8 * l := h.tl
  have c1 := h.c1
  clear h
  go_enter Tryz.func93, Tryz.ntmps93
  go_wp2_with fail
  refine (err_any _ _ _ _ _ _ _ H.out).mono ?_
  rintro e w' ⟨rfl, rfl⟩
  go_wp2_with fail
  refine (within_any _ _ (by omega) (by omega)).mono ?_
  rintro e w' ⟨rfl, rfl⟩
  go_wp2_with fail
  refine (left_any _ _ _ _ _ _ _ H.out).mono ?_
  rintro e w' ⟨rfl, n0, rfl⟩
  have hle : ¬ (k : Int) ≤ (l : Int) * 8 - (t : Int) := by omega
  have hle2 : (l : Int) * 8 - (t : Int) < (k : Int) := by omega
  go_wp2_with fail
  refine (fail_any q l c t a bs (t, 0) 7 _ (H.out.drewN n0) htl).mono ?_
  rintro e w' ⟨rfl, r1, r2⟩
  have R : Hid (TakePost q a l c bs (.int .u64 0) (t, 7) w (.returned (.int .u64 0)) w') := ⟨rfl, r1, (Step.drewN n0).trans0 r2⟩
  clear r1 r2
  go_wp2_with fail
  go_ret
  exact R.out

theorem get_wrong (q l c k t : Nat) (x : Int) (a : Option Addr) (bs : List Nat) (w : World) (h : Rd w q a l c bs (t, x)) (hx : x ≠ 0) :
    Calls Tryz.prog 93 #[.pointer (some ⟨q, 0, none⟩), .int .i64 (k : Int)] w (TakePost q a l c bs (.int .u64 0) (t, x) w) := by
  have H := Lib.hid h
  have hx2 : (x != 0) = true := by simpa using hx
  clear h
  go_enter Tryz.func93, Tryz.ntmps93
  go_wp2_with fail
  refine (err_any _ _ _ _ _ _ _ H.out).mono ?_
  rintro e w' ⟨rfl, rfl⟩
  go_wp2_with fail
  go_ret
  exact ⟨rfl, H.out, Step.refl _ _ _⟩

theorem get_any (q l c k : Nat) (a : Option Addr) (bs : List Nat) (s : Nat × Int) (w : World) (h : Rd w q a l c bs s) (hk : k ≤ 64) :
    Calls Tryz.prog 93 #[.pointer (some ⟨q, 0, none⟩), .int .i64 (k : Int)] w (TakePost q a l c bs (.int .u64 (((getF bs k s).1 : Nat) : Int)) (getF bs k s).2 w) := by
  obtain ⟨t, x⟩ := s
  have hl := h.len
  unfold getF
  by_cases hx : x = 0
  · subst hx
    by_cases ht : t + k ≤ 8 * l
    · have := get_ok q l c k t a bs w h hk ht
      rw [if_neg (by simp), if_pos (by simp only; omega)]
      exact this
    · have := get_short q l c k t a bs w h hk ht
      rw [if_neg (by simp), if_neg (by simp only; omega)]
      exact this
  · rw [if_pos (by simpa using hx)]
    exact get_wrong q l c k t x a bs w h hx

theorem getF_lt (bs : List Nat) (k : Nat) (s : Nat × Int) : (getF bs k s).1 < 2 ^ k := by
  unfold getF
  split
  · exact Nat.two_pow_pos k
  split
  · exact part_lt _ _ _
  · exact Nat.two_pow_pos k

/-- one bit -/
def bitF (bs : List Nat) (s : Nat × Int) : Bool := (getF bs 1 s).1 == 1

theorem bit_any (q l c : Nat) (a : Option Addr) (bs : List Nat) (s : Nat × Int) (w : World) (h : Rd w q a l c bs s) :
    Calls Tryz.prog 92 #[.pointer (some ⟨q, 0, none⟩)] w (TakePost q a l c bs (.bool (bitF bs s)) (getF bs 1 s).2 w) := by
  have H := Lib.hid h
  obtain ⟨n, hn⟩ : ∃ n, (getF bs 1 s).1 = n := ⟨_, rfl⟩
  have hb : ((n : Int) == 1) = bitF bs s := by
    unfold bitF; rw [hn]; rw [Bool.eq_iff_iff]; simp; omega
  have HN := Lib.hid hn
  clear h hn
  go_enter Tryz.func92, Tryz.ntmps92
  go_wp2_with fail
  refine (get_any q l c 1 a bs s _ H.out (by decide)).mono ?_
  rintro e w' ⟨rfl, r1, r2⟩
  rw [HN.out]
  have R : Hid (TakePost q a l c bs (.bool (bitF bs s)) (getF bs 1 s).2 w (.returned (.bool (bitF bs s))) w') := ⟨rfl, r1, r2⟩
  clear r1 r2
  go_wp2_with fail
  go_ret
  exact R.out
end Go.Proofs.YtakomfnajeolcaaGreatDoor.Tk
