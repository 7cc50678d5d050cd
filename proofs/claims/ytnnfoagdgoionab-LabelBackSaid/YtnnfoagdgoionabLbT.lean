/- Compare of labels, the program's and the document's; same. -/
import Derived.Test.YtnnfoagdgoionabLbN
import Derived.Laws.StructEq
import Derived.Test.YtnnfoagdgoionabLbG
namespace Go.Proofs.Ytnnfoagdgoionab
open Go.RowKit
set_option linter.unusedVariables false

/-- what the loop of a comparison knows -/
def CRel (a b : List Lab) (V : Int) (w : World) (k : Nat) (wr : World) : Prop := V = cmpLs (a.drop k) (b.drop k) ∧ Below w.heap.size w wr
set_option maxHeartbeats 2000000 in
theorem cfunc_any (A B : Option Addr) (n m c d : Nat) (a b : List Lab) (w : World) (hn : n = a.length) (hm : m = b.length) (ha : Lw w A a) (hb : Lw w B b) :
    Calls Try.prog 30 #[.slice A n c, .slice B m d, .func (.func 31) #[] #[]] w fun e w' => e = .returned (.int .i64 (cmpLs a b)) ∧ Below w.heap.size w w' := by
  subst hn hm
  have HA := Lib.hid ha
  have HB := Lib.hid hb
  have hal := ha.1
  have hbl := hb.1
  obtain ⟨V, hV⟩ : ∃ V, cmpLs a b = V := ⟨_, rfl⟩
  have HV := Lib.hid hV
  rw [hV]
  clear hV ha hb
  go_enter Try.func30, Try.ntmps30
  go_wp2_with fail
  go_loopw [13] (fun i wr => ∃ k : Nat, k ≤ a.length ∧ k ≤ b.length ∧ i = .int .i64 k ∧ Hid (CRel a b V w k wr)) (fun i _ => a.length - (intOf i).toNat)
  case atStart => exact ⟨0, by omega, by omega, rfl, Lib.hid ⟨by rw [← HV.out]; rfl, Below.refl _ _⟩⟩
  case round =>
    obtain ⟨k, hk, hkb, rfl, HR⟩ := hrel
    have hb := HR.out.2
    by_cases hlt : k < a.length
    · have hki : (k : Int) < (a.length : Int) := by omega
      obtain ⟨p, hp⟩ := getElem?_lt hlt
      obtain ⟨b1, o1, rfl, hc1⟩ := (HA.out.below hb).some_ (by omega)
      obtain ⟨p0, p1⟩ := hc1 k p hp
      have hl1 := block_lt_of_cell p0
      simp only at hl1
      by_cases hlb : k < b.length
      · have hkj : ¬ ((b.length : Int) ≤ (k : Int)) := by omega
        have hkj2 : (k : Int) < (b.length : Int) := by omega
        obtain ⟨q, hq⟩ := getElem?_lt hlb
        obtain ⟨b2, o2, rfl, hc2⟩ := (HB.out.below hb).some_ (by omega)
        obtain ⟨q0, q1⟩ := hc2 k q hq
        have hl2 := block_lt_of_cell q0
        simp only at hl2
        have HS := Lib.hid (cmpLs_at hp hq)
        have hx := below_drewN (hb.alloc hb.size (.cells #[.string p.1, .string p.2] 36)) 0
        have HB0 := Lib.hid hb
        have hw0 := hb.size
        obtain ⟨z, hz⟩ : ∃ z, cmpP p q = z := ⟨_, rfl⟩
        have HZ := Lib.hid hz
        clear hc1 hc2 hp hq hb hx hz
        go_wp2_with fail
        refine (compare_any p q _).mono ?_
        rw [HZ.out]
        rintro e w2 ⟨rfl, hg⟩
        have HB2 := Lib.hid (show Below w.heap.size w w2 from ((HB0.out.alloc hw0 _).alloc (by simp; omega) _).trans (hg.below.mono (by simp; omega)))
        clear hg p0 p1 q0 q1 hl1 hl2
        by_cases h0 : z = 0
        · subst h0
          have HE := Lib.hid (show CRel a b V w (k + 1) w2 from ⟨by rw [HR.out.1, HS.out, HZ.out]; rfl, HB2.out⟩)
          go_wp2_with fail
          go_roundw
          case rel => exact ⟨k + 1, by omega, by omega, by go_num, HE⟩
          case measure => simp [intOf]; omega
        · have h0' : (z != 0) = true := by simp [h0]
          have HE := Lib.hid (show V = z by rw [HR.out.1, HS.out, HZ.out, if_pos h0])
          go_wp2_with fail
          go_ret
          exact ⟨ret_int HE.out.symm, HB2.out⟩
      · have hkj : (b.length : Int) ≤ (k : Int) := by omega
        have HE := Lib.hid (show V = 1 by rw [HR.out.1, cmpLs_more hlt (by omega)])
        have HB0 := Lib.hid hb
        clear hc1 hp hb
        go_wp2_with fail
        go_ret
        exact ⟨ret_int HE.out.symm, HB0.out.alloc HB0.out.size _⟩
    · obtain rfl : k = a.length := by omega
      have hki : ¬ ((a.length : Int) < (a.length : Int)) := by omega
      have HB0 := Lib.hid hb
      by_cases hlb : a.length < b.length
      · have hkj : (a.length : Int) < (b.length : Int) := by omega
        have HE := Lib.hid (show V = -1 by rw [HR.out.1, cmpLs_end (Nat.le_refl _), if_pos hlb])
        clear hb
        go_wp2_with fail
        go_ret
        exact ⟨ret_int HE.out.symm, HB0.out⟩
      · have hkj : ¬ ((a.length : Int) < (b.length : Int)) := by omega
        have HE := Lib.hid (show V = 0 by rw [HR.out.1, cmpLs_end (Nat.le_refl _), if_neg hlb])
        clear hb
        go_wp2_with fail
        go_ret
        exact ⟨ret_int HE.out.symm, HB0.out⟩
theorem comp_any (A B : Option Addr) (n m c d : Nat) (a b : List Lab) (w : World) (hn : n = a.length) (hm : m = b.length) (ha : Lw w A a) (hb : Lw w B b) :
    Calls Try.prog 11 #[.slice A n c, .slice B m d] w fun e w' => e = .returned (.int .i64 (cmpLs a b)) ∧ Below w.heap.size w w' := by
  have H := Lib.hid (cfunc_any A B n m c d a b w hn hm ha hb)
  clear hn hm ha hb
  go_enter Try.func11, Try.ntmps11
  go_wp2_with fail
  refine H.out.mono ?_
  rintro e w1 ⟨rfl, hb1⟩
  have HB := Lib.hid hb1
  clear hb1
  go_wp2_with fail
  go_ret
  exact ⟨rfl, HB.out⟩
end Go.Proofs.Ytnnfoagdgoionab
