/- The document's Print and Key of labels. -/
import Derived.Test.YtnnfoagdgoionabLbPm
import Derived.Test.YtnnfoagdgoionabLbRm
import Derived.Deep.RegionHeld3
import Derived.Deep.CutRange
namespace Go.Proofs.Ytnnfoagdgoionab
open Go.RowKit
set_option linter.unusedVariables false

/-- labels as lists -/
def unT (l : List Lab) : List LabL := l.map fun p => (p.1.data.toList, p.2.data.toList)
theorem unT_lab (l : List Lab) : (unT l).map labT = l := labT_of l
theorem unT_small {l : List Lab} (h : Small l) : ∀ p ∈ unT l, p.1.length ≤ 64 ∧ p.2.length ≤ 64 := by
  intro p hp
  obtain ⟨q, hq, rfl⟩ := List.mem_map.1 hp
  exact h q hq
/-- what the document's Print has made of the first k -/
def pP (l : List Lab) (k : Nat) : List UInt8 := 123 :: jn ((unT (l.take k)).map textT)
theorem pP_snoc {l : List Lab} {k : Nat} {p : Lab} (h : l[k]? = some p) : pP l (k + 1) = pP l k ++ ((if k = 0 then [] else [44]) ++ textT (p.1.data.toList, p.2.data.toList)) := by
  unfold pP unT
  rw [take_snoc l k p h, List.map_append, List.map_append]
  simp only [List.map_cons, List.map_nil]
  rw [jn_snoc]
  have hk := (List.getElem?_eq_some_iff.1 h).1
  by_cases h0 : k = 0
  · subst h0
    simp [jn]
  · have hne : ¬ ((l.take k).map fun p : Lab => ((p.1.data.toList, p.2.data.toList) : LabL)).map textT = [] := by
      intro e
      have := congrArg List.length e
      rw [List.length_map, List.length_map, List.length_take, List.length_nil] at this
      omega
    rw [if_neg hne, if_neg h0]
    simp
theorem pP_len {l : List Lab} (h : Small l) (h16 : l.length ≤ 16) (k : Nat) : (pP l k).length ≤ 3200 := by
  have h1 := jn_le (unT (l.take k)) (unT_small (fun p hp => h p (List.mem_of_mem_take hp)))
  have h2 : (unT (l.take k)).length ≤ 16 := by unfold unT; rw [List.length_map, List.length_take]; omega
  unfold pP
  rw [List.length_cons]
  omega
theorem rquote_is (s : ByteArray) (w : World) (hs : s.size ≤ 4000) (Q : ByteArray) (h : tx (quoteL s.data.toList) = Q) : Calls Try.prog 26 #[.string s] w fun e w' => e = .returned (.string Q) ∧ w = w' := h ▸ rquote_any s w hs
set_option maxHeartbeats 4000000 in
theorem rprint_any (A : Option Addr) (n c : Nat) (l : List Lab) (w : World) (hn : n = l.length) (h : Lw w A l) (h16 : l.length ≤ 16) (hsm : Small l) :
    Calls Try.prog 23 #[.slice A n c] w fun e w' => e = .returned (.string (tx (printT (unT l)))) ∧ ∃ q, w' = w.drewN q := by
  subst hn
  have HL := Lib.hid h
  have HSM := Lib.hid hsm
  clear h hsm
  go_enter Try.func23, Try.ntmps23
  go_wp2_with fail
  go_loopw [3, 4] (fun v i wr => ∃ (k : Nat) (T : ByteArray), k ≤ l.length ∧ i = .int .i64 k ∧ v = .string T ∧ Hid (T = tx (pP l k)) ∧ ∃ q, wr = w.drewN q) (fun _ i _ => l.length - (intOf i).toNat)
  case atStart => exact ⟨0, _, by omega, rfl, rfl, Lib.hid (by unfold pP unT; simp [jn]; rfl), 0, rfl⟩
  case round =>
    obtain ⟨k, T, hk, rfl, rfl, HT, q0, rfl⟩ := hrel
    have hpl := pP_len HSM.out h16 k
    by_cases hlt : k < l.length
    · have hki : (k : Int) < (l.length : Int) := by omega
      obtain ⟨p, hp⟩ := getElem?_lt hlt
      obtain ⟨s1, s2⟩ := HSM.out p (mem_of_at hp)
      obtain ⟨b, off, rfl, hcell⟩ := HL.out.some_ (by omega)
      obtain ⟨c0, c1⟩ := hcell k p hp
      have HS := Lib.hid (pP_snoc hp)
      obtain ⟨Q, hQ⟩ : ∃ Q, tx (quoteL p.2.data.toList) = Q := ⟨_, rfl⟩
      have hql := quote_len p.2.data.toList
      rw [data_len] at hql
      have HQ := Lib.hid (fun W => rquote_is p.2 W (by omega) Q hQ)
      clear hcell hp
      by_cases h0 : k = 0
      · obtain ⟨U2, hU2, hadd2⟩ := add_tx (s := T) (t := p.1) (X := pP l k) (Y := p.1.data.toList) HT.out (tx_of _).symm (by rw [data_len]; omega)
        obtain ⟨U3, hU3, hadd3⟩ := add_tx (s := U2) (t := ⟨#[61]⟩) (Y := [61]) hU2 rfl (by simp; omega)
        obtain ⟨U4, hU4, hadd4⟩ := add_tx (s := U3) (t := Q) (Y := quoteL p.2.data.toList) hU3 hQ.symm (by simp; omega)
        have HU := Lib.hid (show U4 = tx (pP l (k + 1)) by rw [hU4, HS.out, if_pos h0]; unfold textT; simp)
        have hz1 : decide (0 < k) = false := by simp; omega
        have hz2 : decide ((0 : Int) < (k : Int)) = false := by simp; omega
        clear hU2 hU3 hU4 hQ hql hpl h0 s1 s2
        go_wp2_with fail
        go_quiet ((go_at_call 26; exact stays rfl (HQ.out _)))
        go_wp2_with fail
        go_roundw
        case rel => exact ⟨k + 1, U4, by omega, by go_num, rfl, HU, _, rfl⟩
        case measure => simp [intOf]; omega
      · obtain ⟨U1, hU1, hadd1⟩ := add_tx (s := T) (t := ⟨#[44]⟩) (Y := [44]) HT.out rfl (by simp; omega)
        obtain ⟨U2, hU2, hadd2⟩ := add_tx (s := U1) (t := p.1) (Y := p.1.data.toList) hU1 (tx_of _).symm (by simp; omega)
        obtain ⟨U3, hU3, hadd3⟩ := add_tx (s := U2) (t := ⟨#[61]⟩) (Y := [61]) hU2 rfl (by simp; omega)
        obtain ⟨U4, hU4, hadd4⟩ := add_tx (s := U3) (t := Q) (Y := quoteL p.2.data.toList) hU3 hQ.symm (by simp; omega)
        have HU := Lib.hid (show U4 = tx (pP l (k + 1)) by rw [hU4, HS.out, if_neg h0]; unfold textT; simp)
        have hz2 : (0 : Int) < (k : Int) := by omega
        clear hU1 hU2 hU3 hU4 hQ hql hpl h0 s1 s2
        go_wp2_with fail
        go_quiet ((go_at_call 26; exact stays rfl (HQ.out _)))
        go_wp2_with fail
        go_roundw
        case rel => exact ⟨k + 1, U4, by omega, by go_num, rfl, HU, _, rfl⟩
        case measure => simp [intOf]; omega
    · obtain rfl : k = l.length := by omega
      have hki : ¬ ((l.length : Int) < (l.length : Int)) := by omega
      obtain ⟨V, hV, hadd⟩ := add_tx (s := T) (t := ⟨#[125]⟩) (Y := [125]) HT.out rfl (by simp; omega)
      have HV := Lib.hid (show V = tx (printT (unT l)) by rw [hV]; unfold pP printT; rw [List.take_length]; rfl)
      clear hV hpl
      go_wp2_with fail
      go_ret
      exact ⟨by rw [HV.out]; rfl, q0, rfl⟩
end Go.Proofs.Ytnnfoagdgoionab
