/- Samples in memory; when they may be a series', plainly; isTime, rightSample. -/
import Derived.Test.YtjnienlidmmhdaaGreatDoorHsR
import Derived.Test.YtjnienlidmmhdaaGreatDoorHvA
namespace Go.Proofs.YtjnienlidmmhdaaGreatDoor.En
open Go.RowKit Go.Sort
set_option linter.unusedVariables false

structure SV where
  t : Int
  h : HV
def smC (s : SV) (A B : Option Addr) (c d : Nat) : List Value := [.int .i64 s.t, .int .i64 s.h.k, .int .i64 s.h.s, .int .i64 s.h.z, .int .u64 s.h.zc, .int .u64 s.h.ct, .int .i64 s.h.sm, .slice A s.h.P.length c, .slice B s.h.Q.length d]
/-- the buckets of a sample lie there -/
structure Sb (w : World) (s : SV) (A B : Option Addr) : Prop where
  P : Bk w A s.h.P
  Q : Bk w B s.h.Q
  z0 : 0 ≤ s.h.zc
  z1 : s.h.zc ≤ 18446744073709551615
theorem Sb.below {w w' : World} {s : SV} {A B : Option Addr} (h : Sb w s A B) (hb : Below w.heap.size w w') : Sb w' s A B := ⟨h.P.below hb, h.Q.below hb, h.z0, h.z1⟩
/-- a sample lies at block b, cell o -/
def Sm1 (w : World) (b o : Nat) (s : SV) : Prop := ∃ A B c d, (∀ i v, (smC s A B c d)[i]? = some v → w.cell? ⟨b, o + i, none⟩ = some v) ∧ Sb w s A B
theorem Sm1.below {w w' : World} {b o : Nat} {s : SV} (h : Sm1 w b o s) (hb : Below w.heap.size w w') : Sm1 w' b o s := by
  obtain ⟨A, B, c, d, h1, h2⟩ := h
  exact ⟨A, B, c, d, fun i v hv => by rw [hb.cell (block_lt_of_cell (h1 i v hv))]; exact h1 i v hv, h2.below hb⟩
theorem Sm1.cells {w : World} {b o : Nat} {s : SV} (h : Sm1 w b o s) : ∃ A B c d, (w.cell? ⟨b, o, none⟩ = some (.int .i64 s.t) ∧ w.cell? ⟨b, o + 1, none⟩ = some (.int .i64 s.h.k) ∧ w.cell? ⟨b, o + 2, none⟩ = some (.int .i64 s.h.s) ∧ w.cell? ⟨b, o + 3, none⟩ = some (.int .i64 s.h.z) ∧ w.cell? ⟨b, o + 4, none⟩ = some (.int .u64 s.h.zc) ∧ w.cell? ⟨b, o + 5, none⟩ = some (.int .u64 s.h.ct) ∧
    w.cell? ⟨b, o + 6, none⟩ = some (.int .i64 s.h.sm) ∧ w.cell? ⟨b, o + 7, none⟩ = some (.slice A s.h.P.length c) ∧ w.cell? ⟨b, o + 8, none⟩ = some (.slice B s.h.Q.length d)) ∧ Sb w s A B := by
  obtain ⟨A, B, c, d, h1, h2⟩ := h
  exact ⟨A, B, c, d, ⟨h1 0 _ rfl, h1 1 _ rfl, h1 2 _ rfl, h1 3 _ rfl, h1 4 _ rfl, h1 5 _ rfl, h1 6 _ rfl, h1 7 _ rfl, h1 8 _ rfl⟩, h2⟩
/-- a slice of samples -/
def Sm (w : World) (D : Option Addr) (l : List SV) : Prop := l = [] ∨ ∃ b o, D = some ⟨b, o, none⟩ ∧ ∀ j s, l[j]? = some s → Sm1 w b (o + j * 9) s
theorem Sm.below {w w' : World} {D : Option Addr} {l : List SV} (h : Sm w D l) (hb : Below w.heap.size w w') : Sm w' D l := by
  rcases h with h | ⟨b, o, e, hc⟩
  · exact .inl h
  · exact .inr ⟨b, o, e, fun j s hj => (hc j s hj).below hb⟩
theorem Sm.at_ {w : World} {D : Option Addr} {l : List SV} (h : Sm w D l) {j : Nat} {s : SV} (hj : l[j]? = some s) : ∃ b o, D = some ⟨b, o, none⟩ ∧ Sm1 w b (o + j * 9) s := by
  rcases h with rfl | ⟨b, o, e, hc⟩
  · cases hj
  · exact ⟨b, o, e, hc j s hj⟩
theorem Sm.some_ {w : World} {D : Option Addr} {l : List SV} (h : Sm w D l) (h0 : 0 < l.length) : ∃ b o, D = some ⟨b, o, none⟩ ∧ ∀ j s, l[j]? = some s → Sm1 w b (o + j * 9) s := by
  rcases h with rfl | h
  · cases h0
  · exact h
theorem Sm.nil (w : World) (D : Option Addr) : Sm w D [] := .inl rfl
theorem Sm.take {w : World} {D : Option Addr} {l : List SV} (h : Sm w D l) (n : Nat) : Sm w D (l.take n) := by
  rcases h with rfl | ⟨b, o, e, hc⟩
  · exact .inl (by simp)
  · exact .inr ⟨b, o, e, fun j s hj => hc j s (by
      rw [List.getElem?_take] at hj
      split at hj
      · exact hj
      · cases hj)⟩
theorem Sm.drop {w : World} {b o : Nat} {l : List SV} (h : Sm w (some ⟨b, o, none⟩) l) (n : Nat) : Sm w (some ⟨b, o + n * 9, none⟩) (l.drop n) := by
  rcases h with rfl | ⟨b', o', e, hc⟩
  · exact .inl (by simp)
  · injection e with e
    injection e with e1 e2 e3
    subst e1 e2
    refine .inr ⟨b, _, rfl, fun j s hj => ?_⟩
    rw [List.getElem?_drop] at hj
    have := hc (n + j) s hj
    rw [show o + n * 9 + j * 9 = o + (n + j) * 9 by omega]
    exact this
/-- plainly -/
def inT (t : Int) : Bool := decide (0 ≤ t) && decide (t ≤ 1099511627776)
def rightS (s : SV) : Bool := inT s.t && decide (chk s.h = 0)
def UpTo (l : List SV) (k : Nat) : Prop := ∀ i p s, i + 1 < k → l[i]? = some p → l[i + 1]? = some s → p.t < s.t
def RisP (l : List SV) : Prop := (∀ s ∈ l, rightS s = true) ∧ UpTo l l.length
open Classical in
noncomputable def upB (l : List SV) : Bool := decide (UpTo l l.length)
open Classical in
noncomputable def risB (l : List SV) : Bool := decide (RisP l)
open Classical in
theorem upB_true {l : List SV} : upB l = true ↔ UpTo l l.length := by unfold upB; exact decide_eq_true_iff
open Classical in
theorem risB_true {l : List SV} : risB l = true ↔ RisP l := by unfold risB; exact decide_eq_true_iff
theorem risB_and (l : List SV) : risB l = (l.all rightS && upB l) := by
  rw [Bool.eq_iff_iff, Bool.and_eq_true, risB_true, upB_true, List.all_eq_true]
  rfl
theorem risB_false {l : List SV} : risB l = false ↔ ¬ RisP l := by rw [← risB_true]; simp
theorem risB_nil : risB [] = true := risB_true.2 ⟨by simp, fun i p s h => by simp at h⟩
theorem UpTo.mono {l : List SV} {k m : Nat} (h : UpTo l k) (hm : m ≤ k) : UpTo l m := fun i p s hi => h i p s (by omega)
theorem RisP.take {l : List SV} (h : RisP l) (n : Nat) : RisP (l.take n) := by
  refine ⟨fun s hs => h.1 s (List.mem_of_mem_take hs), fun i p s hi hp hs => ?_⟩
  rw [List.length_take] at hi
  rw [List.getElem?_take, if_pos (by omega)] at hp hs
  exact h.2 i p s (by omega) hp hs
/-- step by step -/
def OkAt (l : List SV) (i : Nat) : Prop := ∀ s, l[i]? = some s → rightS s = true ∧ ∀ p, 0 < i → l[i - 1]? = some p → p.t < s.t
theorem ris_iff (l : List SV) : RisP l ↔ ∀ i, i < l.length → OkAt l i := by
  constructor
  · intro h i hi s hs
    refine ⟨h.1 s (List.mem_of_getElem? hs), fun p h0 hp => ?_⟩
    exact h.2 (i - 1) p s (by omega) hp (by rw [show i - 1 + 1 = i by omega]; exact hs)
  · intro h
    refine ⟨fun s hs => ?_, fun i p s hi hp hs => ?_⟩
    · obtain ⟨i, hi, e⟩ := List.getElem_of_mem hs
      exact (h i hi s (by rw [List.getElem?_eq_getElem hi, e])).1
    · exact (h (i + 1) hi s hs).2 p (by omega) (by simpa using hp)
theorem ris_one (s : SV) : RisP [s] ↔ rightS s = true := by
  constructor
  · intro h; exact h.1 s (by simp)
  · intro h
    exact ⟨fun x hx => by rw [List.mem_singleton.1 hx]; exact h, fun i p q hi => by simp at hi⟩
theorem ris_two (p s : SV) : RisP [p, s] ↔ rightS p = true ∧ rightS s = true ∧ p.t < s.t := by
  constructor
  · intro h
    exact ⟨h.1 p (by simp), h.1 s (by simp), h.2 0 p s (by simp) rfl rfl⟩
  · rintro ⟨h1, h2, h3⟩
    refine ⟨fun x hx => ?_, fun i a b hi ha hb => ?_⟩
    · rcases List.mem_cons.1 hx with rfl | hx
      · exact h1
      · rw [List.mem_singleton.1 hx]; exact h2
    · obtain rfl : i = 0 := by simp at hi; omega
      injection ha with ha
      injection hb with hb
      subst ha hb
      exact h3

/-! isTime, rightSample -/
theorem istime_any (t : Int) (w : World) : Calls Tryz.prog 84 #[.int .i64 t] w fun e w' => e = .returned (.bool (inT t)) ∧ w' = w := by
  by_cases h0 : 0 ≤ t
  · by_cases h1 : t ≤ 1099511627776
    · go_enter Tryz.func84, Tryz.ntmps84
      go_wp2_with fail
      go_ret
      exact ⟨by simp [inT, h0, h1], rfl⟩
    · go_enter Tryz.func84, Tryz.ntmps84
      go_wp2_with fail
      go_ret
      exact ⟨by simp [inT, h0, h1], rfl⟩
  · go_enter Tryz.func84, Tryz.ntmps84
    go_wp2_with fail
    go_ret
    exact ⟨by rw [show inT t = false from by unfold inT; rw [decide_eq_false (by omega)]; rfl]; rfl, rfl⟩
theorem reftime_any (t : Int) (w : World) : Calls Tryz.prog 79 #[.int .i64 t] w fun e w' => e = .returned (.bool (inT t)) ∧ w' = w := by
  by_cases h0 : 0 ≤ t
  · by_cases h1 : t ≤ 1099511627776
    · go_enter Tryz.func79, Tryz.ntmps79
      go_wp2_with fail
      go_ret
      exact ⟨by simp [inT, h0, h1], rfl⟩
    · go_enter Tryz.func79, Tryz.ntmps79
      go_wp2_with fail
      go_ret
      exact ⟨by simp [inT, h0, h1], rfl⟩
  · go_enter Tryz.func79, Tryz.ntmps79
    go_wp2_with fail
    go_ret
    exact ⟨by rw [show inT t = false from by unfold inT; rw [decide_eq_false (by omega)]; rfl]; rfl, rfl⟩
set_option maxHeartbeats 1000000 in
set_option maxRecDepth 100000 in
theorem rights_any (s : SV) (A B : Option Addr) (c d : Nat) (w : World) (h : Sb w s A B) :
    Calls Tryz.prog 100 #[.agg #[.int .i64 s.t, .int .i64 s.h.k, .int .i64 s.h.s, .int .i64 s.h.z, .int .u64 s.h.zc, .int .u64 s.h.ct, .int .i64 s.h.sm, .slice A s.h.P.length c, .slice B s.h.Q.length d]] w fun e w' => e = .returned (.bool (rightS s)) ∧ Below w.heap.size w w' := by
  obtain ⟨W1, hW1⟩ : ∃ W1, w.alloc (.cells #[.int .i64 s.t, .int .i64 s.h.k, .int .i64 s.h.s, .int .i64 s.h.z, .int .u64 s.h.zc, .int .u64 s.h.ct, .int .i64 s.h.sm, .slice A s.h.P.length c, .slice B s.h.Q.length d] 41 (0, 0)) = W1 := ⟨_, rfl⟩
  obtain ⟨g, hg⟩ : ∃ g, w.heap.size = g := ⟨_, rfl⟩
  have hb1 : Below w.heap.size w W1 := hW1 ▸ (Below.refl _ _).alloc (Nat.le_refl _) _
  have hbx : W1.heap[g]? = some (.cells #[.int .i64 s.t, .int .i64 s.h.k, .int .i64 s.h.s, .int .i64 s.h.z, .int .u64 s.h.zc, .int .u64 s.h.ct, .int .i64 s.h.sm, .slice A s.h.P.length c, .slice B s.h.Q.length d] 41 (0, 0)) := hg ▸ hW1 ▸ heap_alloc_new w _
  have x0 : W1.cell? ⟨g, 0, none⟩ = some (.int .i64 s.t) := by rw [cell_of_row _ _ _ _ _ _ hbx]; rfl
  have x1 : W1.cell? ⟨g, 1, none⟩ = some (.int .i64 s.h.k) := by rw [cell_of_row _ _ _ _ _ _ hbx]; rfl
  have x2 : W1.cell? ⟨g, 2, none⟩ = some (.int .i64 s.h.s) := by rw [cell_of_row _ _ _ _ _ _ hbx]; rfl
  have x3 : W1.cell? ⟨g, 3, none⟩ = some (.int .i64 s.h.z) := by rw [cell_of_row _ _ _ _ _ _ hbx]; rfl
  have x4 : W1.cell? ⟨g, 4, none⟩ = some (.int .u64 s.h.zc) := by rw [cell_of_row _ _ _ _ _ _ hbx]; rfl
  have x5 : W1.cell? ⟨g, 5, none⟩ = some (.int .u64 s.h.ct) := by rw [cell_of_row _ _ _ _ _ _ hbx]; rfl
  have x6 : W1.cell? ⟨g, 6, none⟩ = some (.int .i64 s.h.sm) := by rw [cell_of_row _ _ _ _ _ _ hbx]; rfl
  have x7 : W1.cell? ⟨g, 7, none⟩ = some (.slice A s.h.P.length c) := by rw [cell_of_row _ _ _ _ _ _ hbx]; rfl
  have x8 : W1.cell? ⟨g, 8, none⟩ = some (.slice B s.h.Q.length d) := by rw [cell_of_row _ _ _ _ _ _ hbx]; rfl
  have HB1 := Lib.hid hb1
  have HS := Lib.hid (h.below hb1)
  have HT := Lib.hid (istime_any s.t W1)
  have HC := Lib.hid (check_any s.h.k s.h.s s.h.z s.h.zc s.h.ct (.int .i64 s.h.sm) A B c d s.h.P s.h.Q W1 HS.out.z0 HS.out.z1 HS.out.P HS.out.Q)
  clear h hb1 hbx
  go_enter Tryz.func100, Tryz.ntmps100
  go_wp2_with fail
  refine HT.out.mono ?_
  rintro e w' ⟨rfl, rfl⟩
  have HE := Lib.hid (show rightS s = (inT s.t && decide (checkF s.h.k s.h.s s.h.z s.h.zc s.h.ct s.h.P s.h.Q = 0)) from rfl)
  obtain ⟨it, hit⟩ : ∃ it, inT s.t = it := ⟨_, rfl⟩
  rw [hit] at HE ⊢
  clear hit
  cases it with
  | false =>
    go_wp2_with fail
    go_ret
    exact ⟨by rw [HE.out]; rfl, HB1.out⟩
  | true =>
    obtain ⟨z, hz⟩ : ∃ z, checkF s.h.k s.h.s s.h.z s.h.zc s.h.ct s.h.P s.h.Q = z := ⟨_, rfl⟩
    rw [hz] at HC HE
    clear hz
    go_wp2_with fail
    refine HC.out.mono ?_
    rintro e w2 ⟨rfl, hb2⟩
    have HB2 := Lib.hid (HB1.out.trans (hb2.mono HB1.out.size))
    clear hb2
    go_wp2_with fail
    go_ret
    refine ⟨?_, HB2.out⟩
    rw [HE.out, Bool.true_and]
    first | rfl | (rw [show (z == 0) = decide (z = 0) from by by_cases hz : z = 0 <;> simp [hz]])
end Go.Proofs.YtjnienlidmmhdaaGreatDoor.En
