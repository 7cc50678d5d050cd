/- Bytes and lists of bytes as they lie in memory; the contract of the program's sum of bytes. -/
import Derived.Test.YtlebgbigbiaanaaSumA
import Derived.Lib.SlBytesConst
namespace Go.Proofs.Ytlebgbigbiaanaa
open Go.RowKit
set_option linter.unusedVariables false

theorem ret_int {k : IntKind} {a b : Int} (h : a = b) : Ending.returned (.int k a) = .returned (.int k b) := by rw [h]
theorem ret_val {k : IntKind} {a b : Int} (h : a = b) : Value.int k a = .int k b := by rw [h]
theorem ret_bool {a b : Bool} (h : a = b) : Ending.returned (.bool a) = .returned (.bool b) := by rw [h]

/-- a slice whose address is A reads as these bytes -/
def Bt (w : World) (A : Option Addr) (bs : List Nat) : Prop :=
  (∀ x ∈ bs, x < 256) ∧ bs.length ≤ 9223372036854775807 ∧ (bs.length = 0 ∨ ∃ b off, A = some ⟨b, off, none⟩ ∧ ∀ (j x : Nat), bs[j]? = some x → w.cell? ⟨b, off + j, none⟩ = some (.int .u8 (x : Int)))
/-- a slice of slices whose address is P reads as these lists of bytes -/
def Ps (w : World) (P : Option Addr) (ls : List (List Nat)) : Prop :=
  ls.length ≤ 9223372036854775807 ∧ (ls.length = 0 ∨ ∃ b off, P = some ⟨b, off, none⟩ ∧ ∀ (j : Nat) (l : List Nat), ls[j]? = some l → ∃ A c, w.cell? ⟨b, off + j, none⟩ = some (.slice A l.length c) ∧ Bt w A l)
/-- all cells that there are are kept -/
def Kept (w w' : World) : Prop := ∀ (p : Addr) (v : Value), w.cell? p = some v → w'.cell? p = some v
theorem Kept.of_below {w w' : World} (h : Below w.heap.size w w') : Kept w w' := fun p v hp => (h.cell (block_lt_of_cell hp)).trans hp
theorem Kept.trans {a b c : World} (h : Kept a b) (k : Kept b c) : Kept a c := fun p v hp => k p v (h p v hp)
theorem Bt.kept {w w' : World} {A : Option Addr} {bs : List Nat} (h : Bt w A bs) (k : Kept w w') : Bt w' A bs := by
  obtain ⟨h1, h2, h3⟩ := h
  refine ⟨h1, h2, ?_⟩
  rcases h3 with h3 | ⟨b, off, e, hc⟩
  · exact .inl h3
  · exact .inr ⟨b, off, e, fun j x hj => k _ _ (hc j x hj)⟩
theorem Ps.kept {w w' : World} {P : Option Addr} {ls : List (List Nat)} (h : Ps w P ls) (k : Kept w w') : Ps w' P ls := by
  obtain ⟨h1, h2⟩ := h
  refine ⟨h1, ?_⟩
  rcases h2 with h2 | ⟨b, off, e, hc⟩
  · exact .inl h2
  · refine .inr ⟨b, off, e, fun j l hj => ?_⟩
    obtain ⟨A, c, q1, q2⟩ := hc j l hj
    exact ⟨A, c, k _ _ q1, q2.kept k⟩
theorem Bt.nil (w : World) (A : Option Addr) : Bt w A [] := ⟨by simp, by simp, .inl rfl⟩
theorem Bt.some_ {w : World} {A : Option Addr} {bs : List Nat} (h : Bt w A bs) (h0 : 0 < bs.length) : ∃ b off, A = some ⟨b, off, none⟩ ∧ ∀ (j x : Nat), bs[j]? = some x → w.cell? ⟨b, off + j, none⟩ = some (.int .u8 (x : Int)) := by
  rcases h.2.2 with h | h
  · omega
  · exact h
theorem Ps.some_ {w : World} {P : Option Addr} {ls : List (List Nat)} (h : Ps w P ls) (h0 : 0 < ls.length) : ∃ b off, P = some ⟨b, off, none⟩ ∧ ∀ (j : Nat) (l : List Nat), ls[j]? = some l → ∃ A c, w.cell? ⟨b, off + j, none⟩ = some (.slice A l.length c) ∧ Bt w A l := by
  rcases h.2 with h | h
  · omega
  · exact h
def Tb (w : World) (B : Nat) : Prop := ∀ n, n < 256 → w.cell? ⟨B, n, none⟩ = some (.int .u32 ((tabK 8 n : Nat) : Int))

/-- one byte's step, in the walk's own words -/
theorem idx_int {s x : Nat} (hx : x < 256) : bits .xor .u8 ((s : Int) % 256) (x : Int) = ((s % 256 ^^^ x : Nat) : Int) := by
  have := u8_xor_nat (s % 256) x (by omega) hx
  rw [← this]
  congr 1
theorem step_int {s x : Nat} (hs : s < 4294967296) (hx : x < 256) : bits .xor .u32 ((s : Int) / 256) ((tabK 8 (s % 256 ^^^ x) : Nat) : Int) = ((crcStep s x : Nat) : Int) := by
  have hq : s % 256 ^^^ x < 4294967296 := xor_lt32 (by omega) (by omega)
  have := u32_xor_nat (s / 256) (tabK 8 (s % 256 ^^^ x)) (by omega) (tabK_lt hq)
  have e : ((s / 256 : Nat) : Int) = (s : Int) / 256 := by omega
  rw [e] at this
  exact this
theorem xor_lt8 {a b : Nat} (ha : a < 256) (hb : b < 256) : a ^^^ b < 256 := by
  have e : (256 : Nat) = 2 ^ 8 := rfl
  rw [e] at ha hb ⊢
  exact Nat.xor_lt_two_pow ha hb
theorem take_snoc {α : Type} (l : List α) (k : Nat) (x : α) (h : l[k]? = some x) : l.take (k + 1) = l.take k ++ [x] := by
  rw [List.take_add_one, h]; rfl
theorem flat_snoc (ls : List (List Nat)) (k : Nat) (l : List Nat) (h : ls[k]? = some l) : (ls.take (k + 1)).flatten = (ls.take k).flatten ++ l := by
  rw [take_snoc ls k l h]; simp
theorem flat_lt {ls : List (List Nat)} (h : ∀ l ∈ ls, ∀ x ∈ l, x < 256) : ∀ x ∈ ls.flatten, x < 256 := by
  intro x hx
  obtain ⟨l, hl, hx⟩ := List.mem_flatten.1 hx
  exact h l hl x hx
theorem getElem?_lt {α : Type} {l : List α} {k : Nat} (h : k < l.length) : ∃ x, l[k]? = some x := ⟨l[k], List.getElem?_eq_getElem h⟩

/-- a part's bytes go into the sum -/
theorem crc_lt_run {S : Nat} {l : List Nat} (hS : S < 4294967296) (hl : ∀ x ∈ l, x < 256) (j : Nat) : crcRun S (l.take j) < 4294967296 :=
  crcRun_lt hS fun x hx => hl x (List.mem_of_mem_take hx)

theorem ps_lt {w : World} {P : Option Addr} {ls : List (List Nat)} (h : Ps w P ls) : ∀ l ∈ ls, ∀ x ∈ l, x < 256 := by
  intro l hl
  obtain ⟨j, hj, rfl⟩ := List.getElem_of_mem hl
  obtain ⟨b, off, _, hc⟩ := h.some_ (by omega)
  obtain ⟨A, c, _, hB⟩ := hc j _ (List.getElem?_eq_getElem hj)
  exact hB.1

set_option maxHeartbeats 1000000 in
set_option maxRecDepth 100000 in
theorem of_any (P : Option Addr) (c : Nat) (ls : List (List Nat)) (w : World) (h : Ps w P ls) :
    Calls Try.prog 13 #[.slice P ls.length c] w fun e w' => e = .returned (.int .u32 ((crcOf ls.flatten : Nat) : Int)) ∧ Below w.heap.size w w' := by
  have hz := zeroT
  have HP := Lib.hid h
  have hlen := h.1
  clear h
  go_enter Try.func13, Try.ntmps13
  go_wp2_with fail
  refine (effects_any _).mono ?_
  rintro e w1 ⟨rfl, hb1⟩
  have HB1 := Lib.hid hb1
  clear hb1
  have hg := heap_alloc_new w1 (.cells (Array.replicate 256 (.int .u32 0)) 65)
  have HG := Lib.hid hg
  clear hg
  go_wp2_with (refine wpList_store_row rfl 65 _ _ rfl w1.heap.size (tabCells 256) rfl rfl 65 (Array.replicate 256 (.int .u32 0)) HG.out (by rw [tabCells_size]; exact sizeT) (by rw [tabCells_size]; simp) (tabCells_one 256) ?_)
  have hb3 : Below w1.heap.size w1 ((w1.alloc (.cells (Array.replicate 256 (.int .u32 0)) 65)).setRow w1.heap.size (tabCells 256)) :=
    ((Below.refl _ _).alloc (Nat.le_refl _) _).trans ⟨rfl, rfl, rfl, by simp, fun k hk => setRow_other _ _ _ _ (by omega)⟩
  have hT : Tb ((w1.alloc (.cells (Array.replicate 256 (.int .u32 0)) 65)).setRow w1.heap.size (tabCells 256)) w1.heap.size := by
    intro n hn
    rw [cell_of_row _ _ n _ _ _ (setRow_heap _ _ _ _ _ _ HG.out), tabCells_at hn, if_pos hn]
  have hbb : Below w.heap.size w ((w1.alloc (.cells (Array.replicate 256 (.int .u32 0)) 65)).setRow w1.heap.size (tabCells 256)) := HB1.out.trans (hb3.mono HB1.out.size)
  obtain ⟨B, hB⟩ : ∃ B, w1.heap.size = B := ⟨_, rfl⟩
  obtain ⟨w3, hw3⟩ : ∃ w3, (w1.alloc (.cells (Array.replicate 256 (.int .u32 0)) 65)).setRow w1.heap.size (tabCells 256) = w3 := ⟨_, rfl⟩
  rw [hw3] at hbb hT ⊢
  rw [hB] at hT ⊢
  have HP3 := Lib.hid (HP.out.kept (Kept.of_below hbb))
  have HT := Lib.hid hT
  have HBB := Lib.hid hbb
  have HL := Lib.hid (ps_lt HP.out)
  clear hb3 hT hbb hw3 hB HG HB1 HP hz
  go_loop [4, 12] (fun s i => ∃ k : Nat, k ≤ ls.length ∧ i = .int .i64 k ∧ s = .int .u32 ((crcRun 4294967295 (ls.take k).flatten : Nat) : Int)) (fun _ i => ls.length - (intOf i).toNat)
  case atStart => exact ⟨0, by omega, rfl, rfl⟩
  case round =>
    obtain ⟨k, hk, rfl, rfl⟩ := hrel
    by_cases hlt : k < ls.length
    · obtain ⟨b, off, rfl, hc⟩ := HP3.out.some_ (by omega)
      obtain ⟨l, hl⟩ := getElem?_lt hlt
      obtain ⟨A, c', q1, q2⟩ := hc k l hl
      have hlm : l ∈ ls := by
        obtain ⟨hi, rfl⟩ := List.getElem?_eq_some_iff.1 hl
        exact List.getElem_mem hi
      have HS := Lib.hid (flat_snoc ls k l hl)
      have HX := Lib.hid (HL.out l hlm)
      have hS := crcRun_lt (s := 4294967295) (l := (ls.take k).flatten) (by omega) (fun x hx => flat_lt (fun l' hl' => HL.out l' (List.mem_of_mem_take hl')) x hx)
      obtain ⟨S, hSe⟩ : ∃ S, crcRun 4294967295 (ls.take k).flatten = S := ⟨_, rfl⟩
      have HSE := Lib.hid hSe
      rw [hSe] at hS ⊢
      have Q2 := Lib.hid q2
      have hll := q2.2.1
      have hki : (k : Int) < (ls.length : Int) := by omega
      clear hc hl hlm hSe q2
      go_wp2_with fail
      go_loop [4, 18] (fun s i => ∃ j : Nat, j ≤ l.length ∧ i = .int .i64 j ∧ s = .int .u32 ((crcRun S (l.take j) : Nat) : Int)) (fun _ i => l.length - (intOf i).toNat)
      case atStart => exact ⟨0, by omega, rfl, rfl⟩
      case round =>
        obtain ⟨j, hj, rfl, rfl⟩ := hrel
        by_cases hlj : j < l.length
        · obtain ⟨b', off', rfl, hc'⟩ := Q2.out.some_ (by omega)
          obtain ⟨x, hx⟩ := getElem?_lt hlj
          have hcx := hc' j x hx
          have hx8 : x < 256 := HX.out x (by
            obtain ⟨hi, rfl⟩ := List.getElem?_eq_some_iff.1 hx
            exact List.getElem_mem hi)
          have HN := Lib.hid (show crcStep (crcRun S (l.take j)) x = crcRun S (l.take (j + 1)) by rw [take_snoc l j x hx, crcRun_snoc])
          have hs := crc_lt_run (j := j) hS HX.out
          obtain ⟨s, hse⟩ : ∃ s, crcRun S (l.take j) = s := ⟨_, rfl⟩
          rw [hse] at hs HN ⊢
          have HSS := Lib.hid hse
          have e1 := idx_int (s := s) hx8
          have e2 := step_int (s := s) hs hx8
          have hq := xor_lt8 (a := s % 256) (b := x) (by omega) hx8
          have ht := HT.out (s % 256 ^^^ x) hq
          obtain ⟨q, hqe⟩ : ∃ q, s % 256 ^^^ x = q := ⟨_, rfl⟩
          rw [hqe] at e1 e2 hq ht
          have hji : (j : Int) < (l.length : Int) := by omega
          clear hc' hx hse hqe
          go_wp2
          go_round
          case rel => exact ⟨j + 1, by omega, by go_num, by rw [HN.out]⟩
          case measure => simp [intOf]; omega
        · obtain rfl : j = l.length := by omega
          have hji : ¬ ((l.length : Int) < (l.length : Int)) := by omega
          rw [List.take_length]
          go_wp2
          go_round
          case rel => exact ⟨k + 1, by omega, by go_num, by rw [HS.out, crcRun_append, HSE.out]⟩
          case measure => simp [intOf]; omega
    · obtain rfl : k = ls.length := by omega
      rw [List.take_length]
      have hlast := crcRun_lt (s := 4294967295) (l := ls.flatten) (by omega) (flat_lt HL.out)
      have HE := Lib.hid (show crcRun 4294967295 ls.flatten ^^^ 4294967295 = crcOf ls.flatten from rfl)
      obtain ⟨s, hs⟩ : ∃ s, crcRun 4294967295 ls.flatten = s := ⟨_, rfl⟩
      rw [hs] at hlast HE ⊢
      have HS := Lib.hid hs
      clear hs
      have hx : bits .xor .u32 IntKind.u32.max (s : Int) = ((crcOf ls.flatten : Nat) : Int) := by
        rw [← HE.out, Nat.xor_comm]
        exact u32_xor_nat 4294967295 s (by decide) hlast
      have HX := Lib.hid hx
      clear hx
      go_wp2
      go_ret
      exact ⟨ret_int HX.out, HBB.out⟩

theorem nine : crcOf [49, 50, 51, 52, 53, 54, 55, 56, 57] = 3421780262 := by decide +kernel
set_option maxRecDepth 100000 in
theorem awake03 (w : World) : Calls Try.prog 12 #[] w fun e w' => e = .returned (.bool true) ∧ Below w.heap.size w w' := by
  have kc := fun (w : World) (C : Array Value) (n c : Nat) => Lib.run_convert_bytes_const (P := Try.prog) w 22 5 C n c Try.underlying22 Try.underlying5
  go_enter Try.func12, Try.ntmps12
  go_wp2_with fail
  refine (of_any _ 1 [[49, 50, 51, 52, 53, 54, 55, 56, 57]] _ ?_).mono ?_
  · refine ⟨by simp, .inr ⟨_, 0, rfl, fun j l hj => ?_⟩⟩
    have hj0 : j = 0 := by
      obtain ⟨h, _⟩ := List.getElem?_eq_some_iff.1 hj
      simpa using h
    subst hj0
    have hl : l = [49, 50, 51, 52, 53, 54, 55, 56, 57] := by simpa using hj.symm
    subst hl
    clear hj kc
    refine ⟨some ⟨w.heap.size, 0, none⟩, 9, by simp [go_sem], by decide, by simp, .inr ⟨_, 0, rfl, fun i x hi => ?_⟩⟩
    have hi9 : i < 9 := by
      obtain ⟨h, _⟩ := List.getElem?_eq_some_iff.1 hi
      simpa using h
    have : i = 0 ∨ i = 1 ∨ i = 2 ∨ i = 3 ∨ i = 4 ∨ i = 5 ∨ i = 6 ∨ i = 7 ∨ i = 8 := by omega
    rcases this with rfl | rfl | rfl | rfl | rfl | rfl | rfl | rfl | rfl <;> (simp at hi; subst hi; simp [go_sem]; rw [cell_of_row _ _ _ _ _ _ (heap_alloc_new w _)]; rfl)
  · rintro e w' ⟨rfl, hb⟩
    have HB := Lib.hid hb
    clear hb
    simp only [List.flatten_cons, List.flatten_nil, List.append_nil, nine]
    go_wp2_with fail
    go_ret
    exact ⟨rfl, (((Below.refl _ _).alloc (Nat.le_refl _) _).alloc (by simp) _).trans (HB.out.mono (by simp; omega))⟩
end Go.Proofs.Ytlebgbigbiaanaa
