/- The document's Compare of labels; same; Light. -/
import Derived.Test.YtnnfoagdgoionabLbT
import Derived.Test.YtnnfoagdgoionabLbG
namespace Go.Proofs.Ytnnfoagdgoionab
open Go.RowKit
set_option linter.unusedVariables false

theorem neq_lab (a b c d : ByteArray) (w : World) : (binOp .neq 36 (.agg #[.string a, .string b]) (.agg #[.string c, .string d])).run Try.prog w = .ok (.bool (!(a.toList == c.toList && b.toList == d.toList))) w := by
  have u3 := Try.underlying9
  have a3 := Try.isAgg9
  have z3 := Try.sizeOf9
  have hS : Try.prog.underlying 36 = some (.struct (Try.prog.fieldsOf 36)) := by kernel_rfl
  have hp : Try.prog.stoodInHeld 36 = false := by kernel_rfl
  rw [run_neq_struct, show (10000 : Nat) = 9999 + 1 from rfl, run_equalIn_agg w 9999 36 _ _ hS hp]
  simp only [Program.fieldsOf, Try.underlying36]
  go_simp
  by_cases h1 : a.toList = c.toList <;> by_cases h2 : b.toList = d.toList <;> simp [h1, h2]
theorem lt_data {a b : ByteArray} : ltS a b ↔ a.data.toList < b.data.toList := by
  unfold ltS; rw [Lib.toList_data, Lib.toList_data]
theorem cmpP_first {p q : Lab} (h : ltS p.1 q.1) : cmpP p q = -1 := by
  have := (cmpP_lt p q).2 (.inl (lt_data.1 h))
  rcases cmpP_three p q with e | e | e <;> omega
theorem cmpP_second {p q : Lab} (h1 : p.1 = q.1) (h : ltS p.2 q.2) : cmpP p q = -1 := by
  have := (cmpP_lt p q).2 (.inr ⟨h1, lt_data.1 h⟩)
  rcases cmpP_three p q with e | e | e <;> omega
theorem cmpP_more {p q : Lab} (h1 : ¬ ltS p.1 q.1) (h2 : p.1 = q.1 → ¬ ltS p.2 q.2) (hne : p ≠ q) : cmpP p q = 1 := by
  have h3 : ¬ cmpP p q < 0 := by
    rw [cmpP_lt]
    rintro (h | ⟨e, h⟩)
    · exact h1 (lt_data.2 h)
    · exact h2 e (lt_data.2 h)
  have h4 : cmpP p q ≠ 0 := fun e => hne ((cmpP_zero p q).1 e)
  rcases cmpP_three p q with e | e | e <;> omega
theorem eqS_true {a b : ByteArray} (h : a = b) : (a.toList == b.toList) = true := by rw [h]; simp
theorem eqS_false {a b : ByteArray} (h : a ≠ b) : (a.toList == b.toList) = false := by
  have : a.toList ≠ b.toList := fun e => h (toList_inj e)
  simp [this]
def WRel (a b : List Lab) (V : Int) (w : World) (k : Nat) (wr : World) : Prop := V = cmpLs (a.drop k) (b.drop k) ∧ ∃ q, wr = w.drewN q
theorem wrel_end {a b : List Lab} {V : Int} {w wr : World} {k : Nat} (h : WRel a b V w k wr) (n : Nat) : ∃ q, wr.drewN n = w.drewN q := by
  obtain ⟨q, rfl⟩ := h.2
  exact ⟨q + n, by rw [World.drewN_drewN]⟩
theorem wrel_end2 {a b : List Lab} {V : Int} {w wr : World} {k : Nat} (h : WRel a b V w k wr) (n m : Nat) : ∃ q, (wr.drewN n).drewN m = w.drewN q := by
  obtain ⟨q, rfl⟩ := h.2
  exact ⟨q + (n + m), by rw [World.drewN_drewN, World.drewN_drewN]⟩
set_option maxHeartbeats 2000000 in
theorem rcomp_any (A B : Option Addr) (n m c d : Nat) (a b : List Lab) (w : World) (hn : n = a.length) (hm : m = b.length) (ha : Lw w A a) (hb : Lw w B b) :
    Calls Try.prog 12 #[.slice A n c, .slice B m d] w fun e w' => e = .returned (.int .i64 (cmpLs a b)) ∧ ∃ q, w' = w.drewN q := by
  subst hn hm
  have HA := Lib.hid ha
  have HB := Lib.hid hb
  have hal := ha.1
  have hbl := hb.1
  have hgd := guard_lab
  obtain ⟨V, hV⟩ : ∃ V, cmpLs a b = V := ⟨_, rfl⟩
  have HV := Lib.hid hV
  rw [hV]
  clear hV ha hb
  go_enter Try.func12, Try.ntmps12
  go_wp2_with fail
  go_loopw [5] (fun i wr => ∃ k : Nat, k ≤ a.length ∧ k ≤ b.length ∧ i = .int .i64 k ∧ Hid (WRel a b V w k wr)) (fun i _ => a.length - (intOf i).toNat)
  case atStart => exact ⟨0, by omega, by omega, rfl, Lib.hid ⟨by rw [← HV.out]; rfl, 0, rfl⟩⟩
  case round =>
    obtain ⟨k, hk, hkb, rfl, HR⟩ := hrel
    by_cases hlt : k < a.length
    · have hki : (k : Int) < (a.length : Int) := by omega
      by_cases hlb : k < b.length
      · have hkj : (k : Int) < (b.length : Int) := by omega
        obtain ⟨p, hp⟩ := getElem?_lt hlt
        obtain ⟨q, hq⟩ := getElem?_lt hlb
        have hlw : Lw wr A a ∧ Lw wr B b := by
          obtain ⟨n, rfl⟩ := HR.out.2
          exact ⟨HA.out, HB.out⟩
        obtain ⟨b1, o1, rfl, hc1⟩ := hlw.1.some_ (by omega)
        obtain ⟨p0, p1⟩ := hc1 k p hp
        obtain ⟨b2, o2, rfl, hc2⟩ := hlw.2.some_ (by omega)
        obtain ⟨q0, q1⟩ := hc2 k q hq
        have HS := Lib.hid (cmpLs_at hp hq)
        have hne := fun W => neq_lab p.1 p.2 q.1 q.2 W
        clear hc1 hc2 hp hq hlw
        by_cases h1 : ltS p.1 q.1
        · have e1 := less_true h1
          have HE := Lib.hid (show V = -1 by rw [HR.out.1, HS.out, cmpP_first h1]; rfl)
          clear h1 hne
          go_wp2_with fail
          go_quiet (fail)
          go_wp2_with fail
          go_ret
          exact ⟨ret_int HE.out.symm, wrel_end HR.out _⟩
        · have e1 := less_false h1
          by_cases h2 : p.1 = q.1
          · have e2 := eqS_true h2
            by_cases h3 : ltS p.2 q.2
            · have e3 := less_true h3
              have HE := Lib.hid (show V = -1 by rw [HR.out.1, HS.out, cmpP_second h2 h3]; rfl)
              clear h1 h2 h3 hne
              go_wp2_with fail
              go_quiet (fail)
              go_wp2_with fail
              go_ret
              exact ⟨ret_int HE.out.symm, wrel_end HR.out _⟩
            · have e3 := less_false h3
              by_cases h4 : p.2 = q.2
              · have e4 := eqS_true h4
                have HE := Lib.hid (show V = cmpLs (a.drop (k + 1)) (b.drop (k + 1)) by rw [HR.out.1, HS.out, (cmpP_zero p q).2 (Prod.ext h2 h4)]; rfl)
                rw [e2, e4] at hne
                simp only [Bool.and_self, Bool.not_true] at hne
                clear h1 h2 h3 h4
                go_wp2_with fail
                go_quiet (fail)
                go_wp2_with fail
                go_quiet (fail)
                go_wp2_with fail
                go_roundw
                case rel => exact ⟨k + 1, by omega, by omega, by go_num, Lib.hid ⟨HE.out, wrel_end HR.out _⟩⟩
                case measure => simp [intOf]; omega
              · have e4 := eqS_false h4
                have HE := Lib.hid (show V = 1 by rw [HR.out.1, HS.out, cmpP_more h1 (fun _ => h3) (fun e => h4 (by rw [e]))]; rfl)
                rw [e2, e4] at hne
                simp only [Bool.and_false, Bool.not_false] at hne
                clear h1 h2 h3 h4
                go_wp2_with fail
                go_quiet (fail)
                go_wp2_with fail
                go_quiet (fail)
                go_wp2_with fail
                go_ret
                exact ⟨ret_int HE.out.symm, wrel_end2 HR.out _ _⟩
          · have e2 := eqS_false h2
            have HE := Lib.hid (show V = 1 by rw [HR.out.1, HS.out, cmpP_more h1 (fun e => absurd e h2) (fun e => h2 (by rw [e]))]; rfl)
            rw [e2] at hne
            simp only [Bool.false_and, Bool.not_false] at hne
            clear h1 h2
            go_wp2_with fail
            go_quiet (fail)
            go_wp2_with fail
            go_quiet (fail)
            go_wp2_with fail
            go_ret
            exact ⟨ret_int HE.out.symm, wrel_end2 HR.out _ _⟩
      · have hkj : ¬ ((k : Int) < (b.length : Int)) := by omega
        obtain rfl : k = b.length := by omega
        have hx : ¬ ((a.length : Int) < (b.length : Int)) := by omega
        have HE := Lib.hid (show V = 1 by rw [HR.out.1, cmpLs_more hlt (by omega)])
        go_wp2_with fail
        go_ret
        exact ⟨ret_int HE.out.symm, wrel_end HR.out 0⟩
    · obtain rfl : k = a.length := by omega
      have hki : ¬ ((a.length : Int) < (a.length : Int)) := by omega
      by_cases hlb : a.length < b.length
      · have hkj : (a.length : Int) < (b.length : Int) := by omega
        have HE := Lib.hid (show V = -1 by rw [HR.out.1, cmpLs_end (Nat.le_refl _), if_pos hlb])
        go_wp2_with fail
        go_ret
        exact ⟨ret_int HE.out.symm, wrel_end HR.out 0⟩
      · have hkj : ¬ ((a.length : Int) < (b.length : Int)) := by omega
        have hkj2 : ¬ ((b.length : Int) < (a.length : Int)) := by omega
        have HE := Lib.hid (show V = 0 by rw [HR.out.1, cmpLs_end (Nat.le_refl _), if_neg hlb])
        go_wp2_with fail
        go_ret
        exact ⟨ret_int HE.out.symm, wrel_end HR.out 0⟩
theorem same_any (A B : Option Addr) (n m c d : Nat) (a b : List Lab) (w : World) (hn : n = a.length) (hm : m = b.length) (ha : Lw w A a) (hb : Lw w B b) :
    Calls Try.prog 15 #[.slice A n c, .slice B m d] w fun e w' => e = .returned (.bool (cmpLs a b == 0)) ∧ ∃ q, w' = w.drewN q := by
  have H := Lib.hid (rcomp_any A B n m c d a b w hn hm ha hb)
  obtain ⟨z, hz⟩ : ∃ z, (cmpLs a b == 0) = z := ⟨_, rfl⟩
  obtain ⟨V, hV⟩ : ∃ V, cmpLs a b = V := ⟨_, rfl⟩
  rw [hV] at hz H
  rw [hV, hz]
  clear hn hm ha hb hV
  go_enter Try.func15, Try.ntmps15
  go_wp2_with fail
  refine H.out.mono ?_
  rintro e w1 ⟨rfl, q, rfl⟩
  go_wp2_with fail
  go_ret
  exact ⟨by simp, q, rfl⟩
def LiteP (e : Ending) : Prop := ∃ z : Bool, e = .returned (.bool z)
def IntV (v : Value) : Prop := ∃ x : Int, v = .int .i64 x
set_option maxHeartbeats 1000000 in
theorem light_any (A : Option Addr) (n c : Nat) (a : List Lab) (w : World) (hn : n = a.length) (ha : Lw w A a) :
    Calls Try.prog 7 #[.slice A n c] w fun e w' => LiteP e ∧ Below w.heap.size w w' := by
  subst hn
  have HA := Lib.hid ha
  have hal := ha.1
  clear ha
  go_enter Try.func7, Try.ntmps7
  go_wp2_with fail
  go_loopw [3, 8] (fun v i wr => ∃ k : Nat, k ≤ a.length ∧ i = .int .i64 k ∧ (∃ x : Int, v = .int .i64 x) ∧ Hid (Below w.heap.size w wr)) (fun _ i _ => a.length - (intOf i).toNat)
  case atStart => exact ⟨0, by omega, rfl, ⟨_, rfl⟩, Lib.hid (Below.refl _ _)⟩
  case round =>
    obtain ⟨k, hk, rfl, ⟨x, rfl⟩, HB⟩ := hrel
    by_cases hlt : k < a.length
    · have hki : (k : Int) < (a.length : Int) := by omega
      obtain ⟨p, hp⟩ := getElem?_lt hlt
      obtain ⟨b1, o1, rfl, hc1⟩ := (HA.out.below HB.out).some_ (by omega)
      obtain ⟨p0, p1⟩ := hc1 k p hp
      have hl1 := block_lt_of_cell p0
      simp only at hl1
      clear hc1 hp
      go_wp2_with fail
      go_roundw
      case rel => exact ⟨k + 1, by omega, by go_num, ⟨_, rfl⟩, Lib.hid (HB.out.alloc HB.out.size _)⟩
      case measure => simp [intOf]; omega
    · obtain rfl : k = a.length := by omega
      have hki : ¬ ((a.length : Int) < (a.length : Int)) := by omega
      go_wp2_with fail
      go_ret
      exact ⟨⟨_, rfl⟩, HB.out⟩
end Go.Proofs.Ytnnfoagdgoionab
