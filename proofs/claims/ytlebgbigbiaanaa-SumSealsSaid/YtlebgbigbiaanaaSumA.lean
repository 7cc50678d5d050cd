/- The table of what each byte does to a sum: its cells, and the contract of the program's own function that makes it. -/
import Derived.Test.YtlebgbigbiaanaaRows
import Derived.Test.YtlebgbigbiaanaaCrcA
import Derived.WalkKit
import Derived.Lib.Hide
import Derived.WalkLawsBesides
import Derived.WalkSpells
import Derived.OpenShut
import Derived.LoopTactic
import Derived.Outline
import Derived.Below
import Derived.Laws.Rows
import Derived.Laws.BitsAllLaws
namespace Go.Proofs.Ytlebgbigbiaanaa
open Go.RowKit
set_option linter.unusedVariables false

/-- the table's cells when the first k are laid -/
def tabCells (k : Nat) : Array Value := (Array.range 256).map fun n => .int .u32 ((if n < k then tabK 8 n else 0 : Nat) : Int)
theorem tabCells_size (k : Nat) : (tabCells k).size = 256 := by unfold tabCells; simp
theorem tabCells_zero : tabCells 0 = Array.replicate 256 (.int .u32 0) := by
  apply Array.ext
  · simp [tabCells]
  · intro i h1 h2
    simp [tabCells]
theorem tabCells_at {k n : Nat} (h : n < 256) : (tabCells k)[n]? = some (.int .u32 ((if n < k then tabK 8 n else 0 : Nat) : Int)) := by
  unfold tabCells
  simp [h]
theorem tabCells_snoc {k : Nat} (h : k < 256) : (tabCells k).setIfInBounds k (.int .u32 ((tabK 8 k : Nat) : Int)) = tabCells (k + 1) := by
  apply Array.ext
  · simp [tabCells]
  · intro i h1 h2
    rw [Array.getElem_setIfInBounds (by simpa using h1)]
    simp only [tabCells, Array.getElem_map, Array.getElem_range]
    by_cases e : k = i
    · subst e; simp
    · rw [if_neg e]
      have : (i < k + 1) = (i < k) := by simp; omega
      simp only [this]
theorem tabCells_one (k : Nat) : (tabCells k).all (·.oneCell') = true := by
  unfold tabCells
  rw [Array.all_eq_true]
  intro i hi
  simp [Value.oneCell']

theorem zeroT (w : World) : (zeroValue 65).run Try.prog w = .ok (.agg (Array.replicate 256 (.int .u32 0))) w := by kernel_rfl
theorem sizeT : (Try.prog.info? 65).map (·.size) = some 256 := by kernel_rfl

/-- one bit's step, in the walk's own words -/
theorem and_one_u32 (s : Nat) (h : s < 4294967296) : bits .and .u32 (s : Int) 1 = (s : Int) % 2 := by
  have := u32_and_nat s 1 h (by decide)
  rw [Nat.and_one_is_mod] at this
  exact this
theorem tab1_int (s : Nat) (h : s < 4294967296) : bits .xor .u32 ((s : Int) / 2) (3988292384 * ((s : Int) % 2)) = ((tab1 s : Nat) : Int) := by
  have hm : s % 2 = 0 ∨ s % 2 = 1 := by omega
  have h1 : crcP * (s % 2) < 4294967296 := by rcases hm with e | e <;> (rw [e]; decide)
  have := u32_xor_nat (s / 2) (crcP * (s % 2)) (by omega) h1
  have e1 : ((s / 2 : Nat) : Int) = (s : Int) / 2 := by omega
  have e2 : ((crcP * (s % 2) : Nat) : Int) = 3988292384 * ((s : Int) % 2) := by unfold crcP; omega
  rw [e1, e2] at this
  exact this

set_option maxHeartbeats 1000000 in
set_option maxRecDepth 100000 in
theorem effects_any (w : World) :
    Calls Try.prog 41 #[] w fun e w' => e = .returned (.agg (tabCells 256)) ∧ Below w.heap.size w w' := by
  have hz := zeroT
  go_enter Try.func41, Try.ntmps41
  go_wp2_with fail
  rw [← tabCells_zero]
  go_loopw [4] (fun i wr => ∃ k : Nat, k ≤ 256 ∧ i = .int .i64 k ∧ wr = (w.alloc (.cells (tabCells 0) 65)).alloc (.cells (tabCells k) 65)) (fun i _ => 256 - (intOf i).toNat)
  case atStart => exact ⟨0, by omega, rfl, rfl⟩
  case round =>
    obtain ⟨k, hk, rfl, rfl⟩ := hrel
    clear hz
    by_cases hlt : k < 256
    · have hki : (k : Int) < 256 := by omega
      go_wp2_with fail
      go_loop [3, 9] (fun s j => ∃ n : Nat, n ≤ 8 ∧ j = .int .i64 n ∧ s = .int .u32 ((tabK n k : Nat) : Int)) (fun _ j => 8 - (intOf j).toNat)
      case atStart => exact ⟨0, by omega, rfl, rfl⟩
      case round =>
        obtain ⟨n, hn, rfl, rfl⟩ := hrel
        have hb := tabK_lt (k := n) (s := k) (by omega)
        have hS := Lib.hid (show tab1 (tabK n k) = tabK (n + 1) k from rfl)
        obtain ⟨s, hs⟩ : ∃ s, tabK n k = s := ⟨_, rfl⟩
        rw [hs] at hb hS
        by_cases hl8 : n < 8
        · have h8 : (n : Int) < 8 := by omega
          rw [hs]
          have HS := Lib.hid hs
          clear hs
          have e1 := and_one_u32 s hb
          have e2 := tab1_int s hb
          go_wp2
          go_round
          case rel => exact ⟨n + 1, by omega, by go_num, by rw [hS.out]⟩
          case measure => simp [intOf]; omega
        · obtain rfl : n = 8 := by omega
          rw [hs]
          have HC := Lib.hid (tabCells_snoc hlt)
          rw [hs] at HC
          have HS := Lib.hid hs
          have hcell : (tabCells k)[k]? = some (.int .u32 0) := by rw [tabCells_at hlt, if_neg (by omega)]; rfl
          clear hs
          go_wp2
          go_roundw
          case rel => exact ⟨k + 1, by omega, by go_num, by rw [HC.out]⟩
          case measure => simp [intOf]; omega
    · obtain rfl : k = 256 := by omega
      have hg := heap_alloc2_new w (.cells (tabCells 0) 65) (.cells (tabCells 256) 65)
      have hg0 := heap_alloc2_old w (.cells (tabCells 0) 65) (.cells (tabCells 256) 65)
      have hbel : Below w.heap.size w ((w.alloc (.cells (tabCells 0) 65)).alloc (.cells (tabCells 256) 65)) := ((Below.refl _ _).alloc (Nat.le_refl _) _).alloc (by simp) _
      obtain ⟨w2, hw2⟩ : ∃ w2, (w.alloc (.cells (tabCells 0) 65)).alloc (.cells (tabCells 256) 65) = w2 := ⟨_, rfl⟩
      rw [hw2] at hg hg0 hbel ⊢
      have HG := Lib.hid hg
      have HG0 := Lib.hid hg0
      clear hg hg0 hw2
      go_wp2_with (first | (refine wpList_load_row rfl 65 _ rfl (w.heap.size + 1) rfl 65 (tabCells 256) (0, 0) _ HG.out Try.underlying65 rfl (by rw [tabCells_size]; exact sizeT) ?_) | (refine wpList_store_row rfl 65 _ _ rfl w.heap.size (tabCells 256) rfl rfl 65 (tabCells 0) HG0.out (by rw [tabCells_size]; exact sizeT) (by rw [tabCells_size, tabCells_size]) (tabCells_one 256) ?_))
      have hlt : w.heap.size < w2.heap.size := by
        by_cases h : w.heap.size < w2.heap.size
        · exact h
        · have := HG0.out
          rw [Array.getElem?_eq_none (by omega)] at this
          cases this
      refine bodyPost_ret (v := .agg (tabCells 256)) (results_cell_row Try.results41 _ _ w.heap.size 65 (tabCells 256) (0, 0) _ rfl (setRow_heap _ _ _ _ _ _ HG0.out) Try.underlying65 rfl (by rw [tabCells_size]; exact sizeT)) rfl ⟨rfl, ?_⟩
      exact hbel.trans ⟨rfl, rfl, rfl, by simp, fun k hk => setRow_other _ _ _ _ (by omega)⟩
end Go.Proofs.Ytlebgbigbiaanaa
