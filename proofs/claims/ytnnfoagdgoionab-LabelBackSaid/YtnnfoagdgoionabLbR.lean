/- A text in quotes: the document's Quote. -/
import Derived.Test.YtnnfoagdgoionabLbQ
import Derived.Laws.Concat
namespace Go.Proofs.Ytnnfoagdgoionab
open Go.RowKit
set_option linter.unusedVariables false

/-- the text of these bytes -/
def tx (l : List UInt8) : ByteArray := ⟨l.toArray⟩
theorem tx_data (l : List UInt8) : (tx l).data.toList = l := rfl
theorem tx_size (l : List UInt8) : (tx l).size = l.length := rfl
theorem tx_of (s : ByteArray) : tx s.data.toList = s := by unfold tx; cases s; simp
theorem tx_inj {a b : List UInt8} (h : tx a = tx b) : a = b := by rw [← tx_data a, h, tx_data]
theorem add_tx {s t : ByteArray} {X Y : List UInt8} (hs : s = tx X) (ht : t = tx Y) (h : X.length + Y.length ≤ 9223372036854775807) : ∃ u, u = tx (X ++ Y) ∧ ∀ W : World, (Op.stringOp .add s t).run Try.prog W = .ok (.string u) W := by
  refine ⟨tx (X ++ Y), rfl, fun W => ?_⟩
  subst hs ht
  refine (run_string_add_sum W (tx X) (tx Y) (by rw [tx_size, tx_size]; exact h)).trans ?_
  rw [show tx X ++ tx Y = tx (X ++ Y) by
    apply ByteArray.ext
    simp [tx, ByteArray.data_append]]
theorem byte_tx (s : ByteArray) (k : Nat) (h : k < s.size) : s.extract k (k + 1) = tx [s[k]] := by
  rw [Lib.extract_eq]
  unfold tx
  congr 2
  apply List.ext_getElem?
  intro j
  rw [show k + 1 - k = 1 by omega]
  by_cases hj : j = 0
  · subst hj
    rw [List.getElem?_take_of_lt (by omega), List.getElem?_drop, Nat.add_zero, data_at s k h]; rfl
  · rw [List.getElem?_eq_none (by simp; omega), List.getElem?_eq_none (by simp; omega)]
set_option maxHeartbeats 2000000 in
theorem rquote_any (s : ByteArray) (w : World) (hs : s.size ≤ 4000) : Calls Try.prog 26 #[.string s] w fun e w' => e = .returned (.string ⟨(quoteL s.data.toList).toArray⟩) ∧ w = w' := by
  go_enter Try.func26, Try.ntmps26
  go_wp2_with fail
  go_loop [3, 4] (fun v i => ∃ k : Nat, ∃ T : ByteArray, k ≤ s.size ∧ i = .int .i64 k ∧ v = .string T ∧ Hid (T = tx (qP s k))) (fun _ i => s.size - (intOf i).toNat)
  case atStart => exact ⟨0, _, by omega, rfl, rfl, Lib.hid rfl⟩
  case round =>
    obtain ⟨k, T, hk, rfl, rfl, HT⟩ := hrel
    have hfl := flat_take s.data.toList k
    rw [data_len] at hfl
    have hlen : (qP s k).length ≤ 8100 := by unfold qP; rw [List.length_cons]; omega
    by_cases hlt : k < s.size
    · have hki : (k : Int) < (s.size : Int) := by omega
      have hc := byte_lt s[k]
      have HS := Lib.hid (show qP s (k + 1) = qP s k ++ qB s[k] by unfold qP; rw [q_snoc s k hlt]; rfl)
      have HX := Lib.hid (byte_tx s k hlt)
      by_cases h1 : s[k].toNat = 10
      · have h1a : ((s[k].toNat : Int) == 10) = true := by simp [h1]
        obtain ⟨U, hU, hadd⟩ := add_tx (s := T) (t := ⟨#[92, 110]⟩) (Y := [92, 110]) HT.out rfl (by simp; omega)
        have HU := Lib.hid (show U = tx (qP s (k + 1)) by
          have := u8_eq (c := s[k]) (d := 10) (by rw [h1]; rfl)
          rw [hU, HS.out]; unfold qB; rw [if_pos this])
        clear h1 hU hfl hlen
        go_wp2_with fail
        go_round
        case rel => exact ⟨k + 1, U, by omega, by go_num, rfl, HU⟩
        case measure => simp [intOf]; omega
      · have h1a : ((s[k].toNat : Int) == 10) = false := by simp; omega
        by_cases h2 : s[k].toNat = 34 ∨ s[k].toNat = 92
        · obtain ⟨U, hU, hadd⟩ := add_tx (s := T) (t := ⟨#[92]⟩) (Y := [92]) HT.out rfl (by simp; omega)
          obtain ⟨V, hV, hadd2⟩ := add_tx (s := U) (t := s.extract k (k + 1)) (Y := [s[k]]) hU HX.out (by simp; omega)
          have HV := Lib.hid (show V = tx (qP s (k + 1)) by
            rw [hV, HS.out]
            unfold qB
            rw [if_neg (fun e => h1 (by rw [e]; rfl)), if_pos]
            · simp
            · rcases h2 with h2 | h2
              · exact .inl (u8_eq (by rw [h2]; rfl))
              · exact .inr (u8_eq (by rw [h2]; rfl)))
          clear hU hV hfl hlen
          rcases h2 with h2 | h2
          · have h2a : ((s[k].toNat : Int) == 34) = true := by simp [h2]
            have h2b : ((s[k].toNat : Int) == 92) = false := by simp [h2]
            clear h1 h2
            go_wp2_with fail
            go_round
            case rel => exact ⟨k + 1, V, by omega, by go_num, rfl, HV⟩
            case measure => simp [intOf]; omega
          · have h2a : ((s[k].toNat : Int) == 34) = false := by simp [h2]
            have h2b : ((s[k].toNat : Int) == 92) = true := by simp [h2]
            clear h1 h2
            go_wp2_with fail
            go_round
            case rel => exact ⟨k + 1, V, by omega, by go_num, rfl, HV⟩
            case measure => simp [intOf]; omega
        · have h2a : ((s[k].toNat : Int) == 34) = false := by simp; omega
          have h2b : ((s[k].toNat : Int) == 92) = false := by simp; omega
          obtain ⟨V, hV, hadd2⟩ := add_tx (s := T) (t := s.extract k (k + 1)) (Y := [s[k]]) HT.out HX.out (by simp; omega)
          have HV := Lib.hid (show V = tx (qP s (k + 1)) by
            rw [hV, HS.out]
            unfold qB
            rw [if_neg (fun e => h1 (by rw [e]; rfl)), if_neg]
            rintro (e | e)
            · exact h2 (.inl (by rw [e]; rfl))
            · exact h2 (.inr (by rw [e]; rfl)))
          clear h1 h2 hV hfl hlen
          go_wp2_with fail
          go_round
          case rel => exact ⟨k + 1, V, by omega, by go_num, rfl, HV⟩
          case measure => simp [intOf]; omega
    · obtain rfl : k = s.size := by omega
      have hki : ¬ ((s.size : Int) < (s.size : Int)) := by omega
      obtain ⟨V, hV, hadd⟩ := add_tx (s := T) (t := ⟨#[34]⟩) (Y := [34]) HT.out rfl (by simp; omega)
      have HV := Lib.hid (show V = tx (quoteL s.data.toList) by
        rw [hV]; unfold quoteL qP; rw [List.take_of_length_le (by rw [data_len]; omega)]; rfl)
      clear hV hfl hlen
      go_wp2_with fail
      go_ret
      exact ⟨by rw [HV.out]; rfl, rfl⟩
end Go.Proofs.Ytnnfoagdgoionab
