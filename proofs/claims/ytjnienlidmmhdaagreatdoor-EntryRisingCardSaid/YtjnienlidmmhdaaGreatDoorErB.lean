/- all samples right, rising: entry.Rising. -/
import Derived.Test.YtjnienlidmmhdaaGreatDoorErA
import Derived.Lib.QuietBelow
import Derived.Test.YtjnienlidmmhdaaGreatDoorRgI
namespace Go.Proofs.YtjnienlidmmhdaaGreatDoor.En
open Go.RowKit Go.Sort
set_option linter.unusedVariables false

theorem Rg.wanted_undef {ops : Array Oper} {o : Oper} {A : Array Value} {g : Nat} {p : Bool} {t : Tmp} (h : o.guard = some (g, p)) (ht : Rg.dstOf ops g = some t) (hv : A[t]? = some undef) : Region.wanted o (yielded ops A) = false := by
  unfold Region.wanted
  rw [h]
  unfold Rg.dstOf at ht
  simp only [yielded, ht, Option.bind_some, hv]
  rfl
def fRight : Value := .func (.func 100) #[] #[]
theorem ret_boolE {a b : Bool} (h : a = b) : Ending.returned (.bool a) = .returned (.bool b) := by rw [h]
/-- a sample in a box of its own -/
theorem box9 {w : World} {s : SV} {A B : Option Addr} {c d : Nat} {W1 : World} {g : Nat} (hW : w.alloc (.cells #[.int .i64 s.t, .int .i64 s.h.k, .int .i64 s.h.s, .int .i64 s.h.z, .int .u64 s.h.zc, .int .u64 s.h.ct, .int .i64 s.h.sm, .slice A s.h.P.length c, .slice B s.h.Q.length d] 41 (0, 0)) = W1) (hg : w.heap.size = g) :
    (W1.cell? ⟨g, 0, none⟩ = some (.int .i64 s.t) ∧ W1.cell? ⟨g, 1, none⟩ = some (.int .i64 s.h.k) ∧ W1.cell? ⟨g, 2, none⟩ = some (.int .i64 s.h.s) ∧ W1.cell? ⟨g, 3, none⟩ = some (.int .i64 s.h.z) ∧ W1.cell? ⟨g, 4, none⟩ = some (.int .u64 s.h.zc) ∧ W1.cell? ⟨g, 5, none⟩ = some (.int .u64 s.h.ct) ∧ W1.cell? ⟨g, 6, none⟩ = some (.int .i64 s.h.sm) ∧ W1.cell? ⟨g, 7, none⟩ = some (.slice A s.h.P.length c) ∧ W1.cell? ⟨g, 8, none⟩ = some (.slice B s.h.Q.length d)) ∧ Below w.heap.size w W1 := by
  have hbx : W1.heap[g]? = some (.cells #[.int .i64 s.t, .int .i64 s.h.k, .int .i64 s.h.s, .int .i64 s.h.z, .int .u64 s.h.zc, .int .u64 s.h.ct, .int .i64 s.h.sm, .slice A s.h.P.length c, .slice B s.h.Q.length d] 41 (0, 0)) := hg ▸ hW ▸ heap_alloc_new w _
  refine ⟨⟨?_, ?_, ?_, ?_, ?_, ?_, ?_, ?_, ?_⟩, hW ▸ (Below.refl _ _).alloc (Nat.le_refl _) _⟩
  all_goals (rw [cell_of_row _ _ _ _ _ _ hbx]; rfl)
set_option maxHeartbeats 1000000 in
set_option maxRecDepth 100000 in
theorem all1_any (s : SV) (A B : Option Addr) (c d g0 : Nat) (w : World) (h : Sb w s A B) (hg0 : w.cell? ⟨g0, 0, none⟩ = some fRight) :
    Calls Tryz.prog 178 #[.agg #[.int .i64 s.t, .int .i64 s.h.k, .int .i64 s.h.s, .int .i64 s.h.z, .int .u64 s.h.zc, .int .u64 s.h.ct, .int .i64 s.h.sm, .slice A s.h.P.length c, .slice B s.h.Q.length d], .pointer (some ⟨g0, 0, none⟩)] w fun e w' => e = .returned (.bool (!rightS s)) ∧ Below w.heap.size w w' := by
  obtain ⟨W1, hW1⟩ : ∃ W1, w.alloc (.cells #[.int .i64 s.t, .int .i64 s.h.k, .int .i64 s.h.s, .int .i64 s.h.z, .int .u64 s.h.zc, .int .u64 s.h.ct, .int .i64 s.h.sm, .slice A s.h.P.length c, .slice B s.h.Q.length d] 41 (0, 0)) = W1 := ⟨_, rfl⟩
  obtain ⟨g, hg⟩ : ∃ g, w.heap.size = g := ⟨_, rfl⟩
  obtain ⟨⟨x0, x1, x2, x3, x4, x5, x6, x7, x8⟩, hb1⟩ := box9 hW1 hg
  have hlt := block_lt_of_cell hg0
  simp only at hlt
  have y0 : W1.cell? ⟨g0, 0, none⟩ = some (.func (.func 100) #[] #[]) := (hb1.cell hlt).trans hg0
  have HB1 := Lib.hid hb1
  have HR := Lib.hid (rights_any s A B c d W1 (h.below hb1))
  clear h hb1 hg0 hlt
  go_enter Tryz.func178, Tryz.ntmps178
  go_wp2_with fail
  refine HR.out.mono ?_
  rintro e w2 ⟨rfl, hb2⟩
  have HB2 := Lib.hid (HB1.out.trans (hb2.mono HB1.out.size))
  clear hb2
  go_wp2_with fail
  go_ret
  exact ⟨rfl, HB2.out⟩
/-- what IndexFunc tells: whether one isn't right -/
def NotP (l : List SV) (w : World) (e : Ending) (w' : World) : Prop := ∃ i : Int, e = .returned (.int .i64 i) ∧ (l.all rightS = false → 0 ≤ i) ∧ (l.all rightS = true → i = -1) ∧ Below w.heap.size w w'
theorem all_no {l : List SV} {j : Nat} {s : SV} (hj : l[j]? = some s) (h : rightS s = false) : l.all rightS = false := by
  rw [List.all_eq_false]
  exact ⟨s, List.mem_of_getElem? hj, by rw [h]; simp⟩
set_option maxHeartbeats 1000000 in
set_option maxRecDepth 100000 in
theorem index_any (D : Option Addr) (n cp g0 : Nat) (l : List SV) (w : World) (hn : n = l.length) (hn1 : (n : Int) ≤ 70368744177664) (h : Sm w D l) (hg0 : w.cell? ⟨g0, 0, none⟩ = some fRight) :
    Calls Tryz.prog 226 #[.slice D n cp, .func (.func 178) #[] #[.pointer (some ⟨g0, 0, none⟩)]] w (NotP l w) := by
  show Calls Tryz.prog 226 #[.slice D n cp, .func (.func 178) #[] #[.pointer (some ⟨g0, 0, none⟩)]] w fun e w' => NotP l w e w'
  have HN := Lib.hid hn
  have HH := Lib.hid h
  have HG := Lib.hid hg0
  clear hn h hg0
  go_enter Tryz.func226, Tryz.ntmps226
  go_wp2_with fail
  go_loopw [8] (fun i wr => ∃ k : Nat, k ≤ n ∧ i = .int .i64 k ∧ Hid (∀ j s, j < k → l[j]? = some s → rightS s = true) ∧ Hid (Below w.heap.size w wr)) (fun i _ => n - (intOf i).toNat)
  case atStart => exact ⟨0, by omega, rfl, Lib.hid (fun j s hj => absurd hj (by omega)), Lib.hid (Below.refl _ _)⟩
  case round =>
    obtain ⟨k, hk, rfl, HF, HB⟩ := hrel
    by_cases hlt : k < n
    · have hki : (k : Int) < (n : Int) := by omega
      obtain ⟨s, hs⟩ : ∃ s, l[k]? = some s := ⟨_, List.getElem?_eq_getElem (by have := HN.out; omega)⟩
      obtain ⟨b, o, rfl, hat⟩ := HH.out.at_ hs
      obtain ⟨A, B, c, d, ⟨a0, a1, a2, a3, a4, a5, a6, a7, a8⟩, hsb⟩ := (hat.below HB.out).cells
      have HA := Lib.hid (all1_any s A B c d g0 wr hsb ((HB.out.cell (block_lt_of_cell HG.out)).trans HG.out))
      have HS := Lib.hid hs
      clear hsb hs hat
      obtain ⟨z, hz⟩ : ∃ z, rightS s = z := ⟨_, rfl⟩
      have HZ := Lib.hid hz
      rw [hz] at HA
      clear hz
      go_wp2_with fail
      refine HA.out.mono ?_
      rintro e w2 ⟨rfl, hb⟩
      have HB2 := Lib.hid (HB.out.trans (hb.mono HB.out.size))
      clear hb a0 a1 a2 a3 a4 a5 a6 a7 a8
      cases z with
      | true =>
        have HF2 := Lib.hid (show ∀ j s, j < k + 1 → l[j]? = some s → rightS s = true from fun j x hj hx => by
          by_cases e : j = k
          · subst e
            rw [HS.out] at hx
            injection hx with hx
            rw [← hx]; exact HZ.out
          · exact HF.out j x (by omega) hx)
        go_wp2_with fail
        go_roundw
        case rel => exact ⟨k + 1, by omega, by go_num, HF2, HB2⟩
        case measure => simp [intOf]; omega
      | false =>
        have HY := Lib.hid (all_no HS.out HZ.out)
        go_wp2_with fail
        go_ret
        exact ⟨k, rfl, fun _ => by omega, fun hh => by rw [HY.out] at hh; exact absurd hh (by decide), HB2.out⟩
    · obtain rfl : k = n := by omega
      have hki : ¬ ((k : Int) < (k : Int)) := by omega
      have HY := Lib.hid (show l.all rightS = true from List.all_eq_true.2 (fun x hx => by
        obtain ⟨j, hj, e⟩ := List.getElem_of_mem hx
        exact HF.out j x (by have := HN.out; omega) (by rw [List.getElem?_eq_getElem hj, e])))
      go_wp2_with fail
      go_ret
      exact ⟨-1, rfl, fun hh => by rw [HY.out] at hh; exact absurd hh (by decide), fun _ => rfl, HB.out⟩
set_option maxHeartbeats 1000000 in
set_option maxRecDepth 100000 in
theorem contains_any (D : Option Addr) (n cp g0 : Nat) (l : List SV) (w : World) (hn : n = l.length) (hn1 : (n : Int) ≤ 70368744177664) (h : Sm w D l) (hg0 : w.cell? ⟨g0, 0, none⟩ = some fRight) :
    Calls Tryz.prog 177 #[.slice D n cp, .func (.func 178) #[] #[.pointer (some ⟨g0, 0, none⟩)]] w fun e w' => e = .returned (.bool (!(l.all rightS))) ∧ Below w.heap.size w w' := by
  have HI := Lib.hid (index_any D n cp g0 l w hn hn1 h hg0)
  clear hn h hg0
  go_enter Tryz.func177, Tryz.ntmps177
  go_wp2_with fail
  refine HI.out.mono ?_
  rintro e w2 ⟨i, rfl, h1, h2, hb⟩
  have HB := Lib.hid hb
  clear hb
  rcases ha : l.all rightS with _ | _
  · have h3 := h1 ha
    have d1 : decide (0 ≤ i) = true := by simpa using h3
    clear h1 h2 h3
    go_wp2_with fail
    go_ret
    exact ⟨ret_boolE (by rw [ha]; rfl), HB.out⟩
  · obtain rfl := h2 ha
    clear h1 h2
    go_wp2_with fail
    go_ret
    exact ⟨ret_boolE (by rw [ha]; rfl), HB.out⟩
set_option maxHeartbeats 1000000 in
set_option maxRecDepth 100000 in
theorem alls_any (D : Option Addr) (n cp : Nat) (l : List SV) (w : World) (hn : n = l.length) (hn1 : (n : Int) ≤ 70368744177664) (h : Sm w D l) :
    Calls Tryz.prog 99 #[.slice D n cp, .func (.func 100) #[] #[]] w fun e w' => e = .returned (.bool (l.all rightS)) ∧ Below w.heap.size w w' := by
  obtain ⟨W1, hW1⟩ : ∃ W1, w.alloc (.cells #[.func (.func 100) #[] #[]] 129 (0, 0)) = W1 := ⟨_, rfl⟩
  obtain ⟨g, hg⟩ : ∃ g, w.heap.size = g := ⟨_, rfl⟩
  have hb1 : Below w.heap.size w W1 := hW1 ▸ (Below.refl _ _).alloc (Nat.le_refl _) _
  have hbx : W1.heap[g]? = some (.cells #[.func (.func 100) #[] #[]] 129 (0, 0)) := hg ▸ hW1 ▸ heap_alloc_new w _
  have x0 : W1.cell? ⟨g, 0, none⟩ = some fRight := by rw [cell_of_row _ _ _ _ _ _ hbx]; rfl
  have HC := Lib.hid (contains_any D n cp g l W1 hn hn1 (h.below hb1) x0)
  have HB1 := Lib.hid hb1
  clear hn h hb1 hbx x0
  go_enter Tryz.func99, Tryz.ntmps99
  go_wp2_with fail
  refine HC.out.mono ?_
  rintro e w2 ⟨rfl, hb2⟩
  have HB2 := Lib.hid (HB1.out.trans (hb2.mono HB1.out.size))
  clear hb2
  go_wp2_with fail
  go_ret
  exact ⟨ret_boolE (by simp), HB2.out⟩
set_option maxHeartbeats 1000000 in
theorem time1_any (s : SV) (A B : Option Addr) (c d : Nat) (w : World) :
    Calls Tryz.prog 102 #[.agg #[.int .i64 s.t, .int .i64 s.h.k, .int .i64 s.h.s, .int .i64 s.h.z, .int .u64 s.h.zc, .int .u64 s.h.ct, .int .i64 s.h.sm, .slice A s.h.P.length c, .slice B s.h.Q.length d]] w fun e w' => e = .returned (.int .i64 s.t) ∧ Below w.heap.size w w' := by
  have hb1 : Below w.heap.size w (w.alloc (.cells #[.int .i64 s.t, .int .i64 s.h.k, .int .i64 s.h.s, .int .i64 s.h.z, .int .u64 s.h.zc, .int .u64 s.h.ct, .int .i64 s.h.sm, .slice A s.h.P.length c, .slice B s.h.Q.length d] 41 (0, 0))) := (Below.refl _ _).alloc (Nat.le_refl _) _
  have HB1 := Lib.hid hb1
  clear hb1
  go_enter Tryz.func102, Tryz.ntmps102
  go_wp2_with fail
  go_ret
  exact ⟨rfl, HB1.out⟩
end Go.Proofs.YtjnienlidmmhdaaGreatDoor.En
