/- The law's Light. -/
import Derived.Test.YtnabfganecghkaaDoorLbX
/-! The value of a name: Get. -/
namespace Go.Proofs.YtnabfganecghkaaDoor.Lb
open Go.RowKit
set_option linter.unusedVariables false

def isN (s : ByteArray) (p : Lab) : Bool := p.1.toList == s.toList
/-- the first label of that name -/
def getK (l : List Lab) (s : ByteArray) : Option Lab := l.find? (isN s)
def getV (l : List Lab) (s : ByteArray) : ByteArray := match getK l s with
  | some p => p.2
  | none => ⟨#[]⟩
theorem getK_hit {l : List Lab} {s : ByteArray} {k : Nat} {p : Lab} (h : ∀ i q, i < k → l[i]? = some q → isN s q = false) (hp : l[k]? = some p) (hs : isN s p = true) : getK l s = some p := by
  unfold getK
  have e : l = l.take k ++ l.drop k := (List.take_append_drop k l).symm
  obtain ⟨hk, hx⟩ := List.getElem?_eq_some_iff.1 hp
  rw [e, List.find?_append]
  have h1 : (l.take k).find? (isN s) = none := by
    rw [List.find?_eq_none]
    intro q hq hn
    obtain ⟨i, hi, rfl⟩ := List.getElem_of_mem hq
    rw [List.length_take] at hi
    rw [List.getElem_take] at hn
    rw [h i _ (by omega) (List.getElem?_eq_getElem (by omega))] at hn
    cases hn
  rw [h1, List.drop_eq_getElem_cons hk, hx, List.find?_cons, hs]
  rfl
theorem getK_none {l : List Lab} {s : ByteArray} (h : ∀ i q, i < l.length → l[i]? = some q → isN s q = false) : getK l s = none := by
  unfold getK
  rw [List.find?_eq_none]
  intro q hq hn
  obtain ⟨i, hi, rfl⟩ := List.getElem_of_mem hq
  rw [h i _ hi (List.getElem?_eq_getElem hi)] at hn
  cases hn
theorem isN_any (g : Nat) (s : ByteArray) (p : Lab) (w : World) (hg : w.cell? ⟨g, 0, none⟩ = some (.string s)) :
    Calls Tryd.prog 33 #[.agg #[.string p.1, .string p.2], .pointer (some ⟨g, 0, none⟩)] w fun e w' => e = .returned (.bool (isN s p)) ∧ Below w.heap.size w w' := by
  obtain ⟨z, hz⟩ : ∃ z, (p.1.toList == s.toList) = z := ⟨_, rfl⟩
  have HE := Lib.hid (show isN s p = z from hz)
  rw [HE.out]
  have hlt := block_lt_of_cell hg
  simp only at hlt
  go_enter Tryd.func33, Tryd.ntmps33
  go_wp2_with fail
  go_ret
  exact ⟨by simp, (Below.refl _ _).alloc (Nat.le_refl _) _⟩
/-- what IndexFunc tells -/
def IdxP (l : List Lab) (s : ByteArray) (e : Ending) : Prop := (e = .returned (.int .i64 (-1)) ∧ getK l s = none) ∨ ∃ (k : Nat) (p : Lab), e = .returned (.int .i64 (k : Int)) ∧ l[k]? = some p ∧ getK l s = some p
set_option maxHeartbeats 1000000 in
theorem index_any (g : Nat) (s : ByteArray) (A : Option Addr) (n c : Nat) (l : List Lab) (w : World) (hn : n = l.length) (h : Lw w A l) (hg : w.cell? ⟨g, 0, none⟩ = some (.string s)) :
    Calls Tryd.prog 32 #[.slice A n c, .func (.func 33) #[] #[.pointer (some ⟨g, 0, none⟩)]] w fun e w' => IdxP l s e ∧ Below w.heap.size w w' := by
  subst hn
  have HL := Lib.hid h
  have HG := Lib.hid hg
  have hll := h.1
  clear h hg
  go_enter Tryd.func32, Tryd.ntmps32
  go_wp2_with fail
  go_loopw [8] (fun i wr => ∃ k : Nat, k ≤ l.length ∧ i = .int .i64 k ∧ Hid (∀ i q, i < k → l[i]? = some q → isN s q = false) ∧ Hid (Below w.heap.size w wr)) (fun i _ => l.length - (intOf i).toNat)
  case atStart => exact ⟨0, by omega, rfl, Lib.hid (fun i q hi => absurd hi (by omega)), Lib.hid (Below.refl _ _)⟩
  case round =>
    obtain ⟨k, hk, rfl, HN, HB⟩ := hrel
    by_cases hlt : k < l.length
    · have hki : (k : Int) < (l.length : Int) := by omega
      obtain ⟨p, hp⟩ := getElem?_lt hlt
      obtain ⟨b, off, rfl, hcell⟩ := (HL.out.below HB.out).some_ (by omega)
      obtain ⟨q0, q1⟩ := hcell k p hp
      obtain ⟨z, hz⟩ : ∃ z, isN s p = z := ⟨_, rfl⟩
      have HZ := Lib.hid hz
      have HP := Lib.hid hp
      clear hcell hp hz
      go_wp2_with fail
      refine (isN_any g s p _ ((HB.out.cell (block_lt_of_cell HG.out)).trans HG.out)).mono ?_
      rw [HZ.out]
      rintro e w2 ⟨rfl, hb2⟩
      have HB2 := Lib.hid (HB.out.trans (hb2.mono HB.out.size))
      clear hb2 q0 q1
      cases z with
      | true =>
        have HE := Lib.hid (show IdxP l s (.returned (.int .i64 (k : Int))) from .inr ⟨k, p, rfl, HP.out, getK_hit HN.out HP.out HZ.out⟩)
        go_wp2_with fail
        go_ret
        exact ⟨HE.out, HB2.out⟩
      | false =>
        have HE := Lib.hid (show ∀ i q, i < k + 1 → l[i]? = some q → isN s q = false from fun i q hi hq => by
          by_cases e : i = k
          · subst e
            rw [HP.out] at hq
            injection hq with hq
            rw [← hq]; exact HZ.out
          · exact HN.out i q (by omega) hq)
        go_wp2_with fail
        go_roundw
        case rel => exact ⟨k + 1, by omega, by go_num, HE, HB2⟩
        case measure => simp [intOf]; omega
    · obtain rfl : k = l.length := by omega
      have hki : ¬ ((l.length : Int) < (l.length : Int)) := by omega
      have HE := Lib.hid (show IdxP l s (.returned (.int .i64 (-1))) from .inl ⟨rfl, getK_none HN.out⟩)
      go_wp2_with fail
      go_ret
      exact ⟨HE.out, HB.out⟩
set_option maxHeartbeats 1000000 in
theorem get_any (A : Option Addr) (n c : Nat) (l : List Lab) (s : ByteArray) (w : World) (hn : n = l.length) (h : Lw w A l) :
    Calls Tryd.prog 21 #[.slice A n c, .string s] w fun e w' => e = .returned (.string (getV l s)) ∧ Below w.heap.size w w' := by
  subst hn
  have hb1 : Below w.heap.size w (w.alloc (.cells #[.string s] 9)) := (Below.refl _ _).alloc (Nat.le_refl _) _
  have HL := Lib.hid (h.below hb1)
  have HB1 := Lib.hid hb1
  have hll := h.1
  clear h hb1
  go_enter Tryd.func21, Tryd.ntmps21
  go_wp2_with fail
  refine (index_any w.heap.size s A l.length c l _ rfl HL.out (new_one _ _ _)).mono ?_
  rintro e w2 ⟨hi, hb2⟩
  have HB2 := Lib.hid (HB1.out.trans (hb2.mono HB1.out.size))
  have HL2 := Lib.hid (HL.out.below hb2)
  clear hb2
  rcases hi with ⟨rfl, hk⟩ | ⟨k, p, rfl, hp, hk⟩
  · have HE := Lib.hid (show getV l s = ⟨#[]⟩ by unfold getV; rw [hk])
    clear hk
    go_wp2_with fail
    go_ret
    exact ⟨by rw [HE.out]; rfl, HB2.out⟩
  · have HE := Lib.hid (show getV l s = p.2 by unfold getV; rw [hk])
    have hkl := (List.getElem?_eq_some_iff.1 hp).1
    have hki : (k : Int) < (l.length : Int) := by omega
    have hk0 : decide ((k : Int) < (0 : Int)) = false := by simp
    obtain ⟨b, off, rfl, hcell⟩ := HL2.out.some_ (by omega)
    obtain ⟨q0, q1⟩ := hcell k p hp
    clear hk hp hcell
    go_wp2_with fail
    go_ret
    exact ⟨by rw [HE.out]; rfl, HB2.out⟩
end Go.Proofs.YtnabfganecghkaaDoor.Lb

/-! The law's Light. -/
namespace Go.Proofs.YtnabfganecghkaaDoor.Lb
open Go.RowKit
set_option linter.unusedVariables false

def LiteP (e : Ending) : Prop := ∃ z : Bool, e = .returned (.bool z)
def IntV (v : Value) : Prop := ∃ x : Int, v = .int .i64 x
set_option maxHeartbeats 1000000 in
theorem light_any (A : Option Addr) (n c : Nat) (a : List Lab) (w : World) (hn : n = a.length) (ha : Lw w A a) :
    Calls Tryd.prog 16 #[.slice A n c] w fun e w' => LiteP e ∧ Below w.heap.size w w' := by
  subst hn
  have HA := Lib.hid ha
  have hal := ha.1
  clear ha
  go_enter Tryd.func16, Tryd.ntmps16
  go_wp2_with fail
  go_loopw [3, 8] (fun v i wr => ∃ k : Nat, k ≤ a.length ∧ i = .int .i64 k ∧ (∃ x : Int, v = .int .i64 x) ∧ Hid (Below w.heap.size w wr)) (fun _ i _ => a.length - (intOf i).toNat)
  case atStart => exact ⟨0, by omega, rfl, ⟨_, rfl⟩, Lib.hid (Below.refl _ _)⟩
  case round =>
    obtain ⟨k, hk, rfl, ⟨x, rfl⟩, HB⟩ := hrel
    by_cases hlt : k < a.length
    · have hki : (k : Int) < (a.length : Int) := by omega
      obtain ⟨p, hp⟩ := getElem?_lt hlt
      obtain ⟨b1, o1, rfl, hc1⟩ := (HA.out.below HB.out).some_ (by omega)
      obtain ⟨p0, p1⟩ := hc1 k p hp
      have hl1 := block_lt_of_cell p0
      simp only at hl1
      clear hc1 hp
      go_wp2_with fail
      go_roundw
      case rel => exact ⟨k + 1, by omega, by go_num, ⟨_, rfl⟩, Lib.hid (HB.out.alloc HB.out.size _)⟩
      case measure => simp [intOf]; omega
    · obtain rfl : k = a.length := by omega
      have hki : ¬ ((a.length : Int) < (a.length : Int)) := by omega
      go_wp2_with fail
      go_ret
      exact ⟨⟨_, rfl⟩, HB.out⟩
end Go.Proofs.YtnabfganecghkaaDoor.Lb
