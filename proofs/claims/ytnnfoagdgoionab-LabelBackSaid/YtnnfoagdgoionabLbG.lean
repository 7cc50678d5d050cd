/- The program's Parse; the document's example of labels. -/
import Derived.Test.YtnnfoagdgoionabLbF
import Derived.Laws.StructEq
namespace Go.Proofs.Ytnnfoagdgoionab
open Go.RowKit
set_option linter.unusedVariables false

noncomputable def parE (l : List UInt8) : Int := match readL l with
  | none => 6
  | some L => chk (L.map labT)
def ParseP (l : List UInt8) (e : Ending) (w' : World) : Prop :=
  (∃ L A n c, readL l = some L ∧ chk (L.map labT) = 0 ∧ e = .returned (.tuple #[.slice A n c, .int .i64 0]) ∧ n = L.length ∧ Lw w' A (L.map labT)) ∨
  (parE l ≠ 0 ∧ e = .returned (.tuple #[.slice none 0 0, .int .i64 (parE l)]))
set_option maxHeartbeats 1000000 in
theorem parse_any (s : ByteArray) (w : World) (hs : s.size ≤ 4000) (hi : ∀ m, m <:+ s.data.toList → IX (tx m)) : Calls Try.prog 21 #[.string s] w fun e w' => ParseP s.data.toList e w' ∧ Below w.heap.size w w' := by
  have HI := Lib.hid hi
  obtain ⟨R, hR⟩ : ∃ R, readL s.data.toList = R := ⟨_, rfl⟩
  have HR := Lib.hid hR
  clear hi hR
  go_enter Try.func21, Try.ntmps21
  go_wp2_with fail
  refine (read_any s _ hs HI.out).mono ?_
  rw [HR.out]
  rintro e w1 ⟨hr, hb1⟩
  have HB1 := Lib.hid hb1
  clear hb1
  cases R with
  | none =>
    simp only [ReadP] at hr
    subst hr
    have HE := Lib.hid (show parE s.data.toList = 6 by unfold parE; rw [HR.out])
    go_wp2_with fail
    go_ret2
    exact ⟨.inr ⟨by rw [HE.out]; omega, by rw [HE.out]; rfl⟩, HB1.out⟩
  | some L =>
    obtain ⟨A, n, c, rfl, hn, hL⟩ := hr
    have HN := Lib.hid hn
    have HL := Lib.hid hL
    have HE := Lib.hid (show parE s.data.toList = chk (L.map labT) by unfold parE; rw [HR.out])
    obtain ⟨E, hE⟩ : ∃ E, chk (L.map labT) = E := ⟨_, rfl⟩
    have HEE := Lib.hid hE
    clear hn hL
    go_wp2_with fail
    refine (check_any A n c (L.map labT) _ (by rw [HN.out, List.length_map]) HL.out).mono ?_
    rw [hE]
    clear hE
    rintro e w2 ⟨rfl, hb2⟩
    have HL2 := Lib.hid (HL.out.below hb2)
    have HB2 := Lib.hid (HB1.out.trans (hb2.mono HB1.out.size))
    clear hb2
    by_cases h0 : E = 0
    · subst h0
      go_wp2_with fail
      go_ret2
      exact ⟨.inl ⟨L, A, n, c, HR.out, HEE.out, rfl, HN.out, HL2.out⟩, HB2.out⟩
    · have h0' : (E != 0) = true := by simp [h0]
      go_wp2_with fail
      go_ret2
      exact ⟨.inr ⟨by rw [HE.out, HEE.out]; exact h0, by rw [HE.out, HEE.out]; rfl⟩, HB2.out⟩
/-- two labels told apart, as Go does it -/
theorem eq_lab (a b c d : ByteArray) (w : World) : (binOp .eql 36 (.agg #[.string a, .string b]) (.agg #[.string c, .string d])).run Try.prog w = .ok (.bool (a.toList == c.toList && b.toList == d.toList)) w := by
  have u3 := Try.underlying9
  have a3 := Try.isAgg9
  have z3 := Try.sizeOf9
  have hS : Try.prog.underlying 36 = some (.struct (Try.prog.fieldsOf 36)) := by kernel_rfl
  have hp : Try.prog.stoodInHeld 36 = false := by kernel_rfl
  rw [run_eql_struct, show (10000 : Nat) = 9999 + 1 from rfl, run_equalIn_agg w 9999 36 _ _ hS hp]
  simp only [Program.fieldsOf, Try.underlying36]
  go_simp
  by_cases h1 : a.toList = c.toList <;> by_cases h2 : b.toList = d.toList <;> simp [h1, h2]
theorem guard_lab (op : BinOp) (x y : Operand) (xs ys : Array Value) (w : World) : (eqGuard op 36 x y (.agg xs) (.agg ys)).run Try.prog w = .ok () w := run_eqGuard_agg w op _ x y xs ys (by kernel_rfl)

def ex0 : ByteArray := ⟨#[123, 97, 61, 34, 120, 34, 44, 98, 61, 34, 121, 34, 125]⟩
theorem ex0_read : readL ex0.data.toList = some [([97], [120]), ([98], [121])] := by decide
theorem ex0_ascii : ascii ex0.data.toList = true := by decide
theorem ex0_ix (m : List UInt8) (h : m <:+ ex0.data.toList) : IX (tx m) := by
  refine ix_ascii _ ?_ ?_
  · rw [tx_size]
    have := h.length_le
    have e : ex0.data.toList.length = 13 := rfl
    omega
  · rw [tx_data]
    refine List.all_eq_true.2 fun b hb => List.all_eq_true.1 ex0_ascii b (h.subset hb)
theorem name_one (c : UInt8) (h1 : nmC c = true) (h2 : dgB c.toNat = false) : NameP (tx [c]) := by
  refine ⟨rfl, fun _ => h2, fun i hi => ?_⟩
  rw [tx_size] at hi
  obtain rfl : i = 0 := by simp at hi; omega
  exact h1
theorem ex0_chk : chk ([([97], [120]), ([98], [121])].map labT) = 0 := by
  refine chk_0 (by decide) ?_
  intro k p hp
  rcases (show k = 0 ∨ k = 1 ∨ 2 ≤ k by omega) with rfl | rfl | h
  · simp at hp
    subst hp
    exact ⟨⟨name_one 97 (by decide) (by decide), by decide⟩, fun q h => absurd h (by omega)⟩
  · simp at hp
    subst hp
    refine ⟨⟨name_one 98 (by decide) (by decide), by decide⟩, fun q _ hq => ?_⟩
    simp at hq
    subst hq
    show (tx [97]).toList < (tx [98]).toList
    rw [Lib.toList_data, Lib.toList_data]
    decide
  · rw [List.getElem?_eq_none (by simp; omega)] at hp
    cases hp
set_option maxHeartbeats 1000000 in
theorem awake_any (w : World) : Calls Try.prog 8 #[] w fun e w' => e = .returned (.bool true) ∧ Below w.heap.size w w' := by
  have hg := guard_lab
  have hq := fun W => eq_lab (tx [98]) (tx [121]) ⟨#[98]⟩ ⟨#[121]⟩ W
  have e1 : ((tx [98]).toList == (⟨#[98]⟩ : ByteArray).toList && (tx [121]).toList == (⟨#[121]⟩ : ByteArray).toList) = true := by
    rw [Lib.toList_data, Lib.toList_data, Lib.toList_data, Lib.toList_data]; decide
  rw [e1] at hq
  clear e1
  go_enter Try.func8, Try.ntmps8
  go_wp2_with fail
  refine (parse_any ex0 _ (by decide) ex0_ix).mono ?_
  rintro e w1 ⟨hp, hb⟩
  rcases hp with ⟨L, A, n, c, h1, _, rfl, hn, hL⟩ | ⟨h, _⟩
  · rw [ex0_read] at h1
    injection h1 with h1
    subst h1
    obtain rfl : n = 2 := by simpa using hn
    obtain ⟨b, off, rfl, hc⟩ := hL.some_ (by simp)
    obtain ⟨q0, q1⟩ := hc 1 (tx [98], tx [121]) rfl
    simp only [Nat.one_mul] at q0 q1
    have HB := Lib.hid hb
    clear hb hn hL hc
    go_wp2_with fail
    go_ret
    exact ⟨rfl, HB.out⟩
  · exfalso
    apply h
    unfold parE
    rw [ex0_read]
    exact ex0_chk
end Go.Proofs.Ytnnfoagdgoionab
