/- A text in quotes: the program's Quote. -/
import Derived.Test.YtnnfoagdgoionabLbC
namespace Go.Proofs.Ytnnfoagdgoionab
open Go.RowKit
set_option linter.unusedVariables false

/-- a byte between quotes -/
def qB (c : UInt8) : List UInt8 := if c = 10 then [92, 110] else if c = 34 ∨ c = 92 then [92, c] else [c]
def quoteL (l : List UInt8) : List UInt8 := 34 :: (l.flatMap qB ++ [34])
theorem qB_len (c : UInt8) : (qB c).length ≤ 2 := by
  unfold qB; split
  · simp
  · split <;> simp
theorem flat_len (l : List UInt8) : (l.flatMap qB).length ≤ 2 * l.length := by
  induction l with
  | nil => simp
  | cons a r ih => have := qB_len a; simp [List.flatMap_cons] at *; omega
theorem flat_take (l : List UInt8) (k : Nat) : ((l.take k).flatMap qB).length ≤ 2 * l.length := by
  have := flat_len (l.take k)
  have : (l.take k).length ≤ l.length := by rw [List.length_take]; omega
  omega
theorem data_at (s : ByteArray) (k : Nat) (h : k < s.size) : s.data.toList[k]? = some s[k] := by
  rw [List.getElem?_eq_getElem (by simpa using h)]; rfl
theorem data_len (s : ByteArray) : s.data.toList.length = s.size := rfl
theorem q_snoc (s : ByteArray) (k : Nat) (h : k < s.size) : (s.data.toList.take (k + 1)).flatMap qB = (s.data.toList.take k).flatMap qB ++ qB s[k] := by
  rw [take_snoc _ k _ (data_at s k h)]; simp
theorem u8_eq {c d : UInt8} (h : c.toNat = d.toNat) : c = d := UInt8.toNat_inj.1 h
/-- what Quote has made of the first k bytes -/
def qP (s : ByteArray) (k : Nat) : List UInt8 := 34 :: (s.data.toList.take k).flatMap qB

/-- what the loop of Quote knows -/
def QRel (s : ByteArray) (w : World) (k : Nat) (v : Value) (wr : World) : Prop :=
  ∃ (A : Option Addr) (n c : Nat), v = .slice A n c ∧ wr.ownsRow w.heap.size 5 1 (.slice A n c) n (byC (qP s k)) ∧ Below w.heap.size w wr
theorem QRel.n {s : ByteArray} {w wr : World} {k n c : Nat} {A : Option Addr} {X : List UInt8} (h : wr.ownsRow w.heap.size 5 1 (.slice A n c) n (byC X)) : n = X.length := by
  have := h.1
  rw [byC_length] at this
  omega

set_option maxHeartbeats 2000000 in
theorem quote_any (s : ByteArray) (w : World) (hs : s.size ≤ 4000) : Calls Try.prog 24 #[.string s] w fun e w' => e = .returned (.string ⟨(quoteL s.data.toList).toArray⟩) ∧ Below w.heap.size w w' := by
  go_enter Try.func24, Try.ntmps24
  go_wp2_with fail
  go_loopw [3, 9] (fun v i wr => ∃ k : Nat, k ≤ s.size ∧ i = .int .i64 k ∧ Hid (QRel s w k v wr)) (fun _ i _ => s.size - (intOf i).toNat)
  case atStart => exact ⟨0, by omega, rfl, Lib.hid ⟨_, _, _, rfl, ⟨by simp [byC, qP], .inr ⟨w.heap.size, 1, _, rfl, Nat.le_refl _, heap_alloc_new _ _, by omega, by unfold maxLen; omega, rfl, by simp [byC, qP]⟩⟩, (Below.refl _ _).alloc (Nat.le_refl _) _⟩⟩
  case round =>
    obtain ⟨k, hk, rfl, HQ⟩ := hrel
    by_cases hlt : k < s.size
    · have hki : (k : Int) < (s.size : Int) := by omega
      have hc := byte_lt s[k]
      obtain ⟨A, n, c, rfl, hown, hb⟩ := HQ.out
      have hn := QRel.n (s := s) (w := w) (k := k) hown
      have hfl := flat_take s.data.toList k
      rw [data_len] at hfl
      have hn2 : n + 2 ≤ 1000000 := by rw [hn]; unfold qP; rw [List.length_cons]; omega
      have HS := Lib.hid (show qP s (k + 1) = qP s k ++ qB s[k] by unfold qP; rw [q_snoc s k hlt]; rfl)
      have HOwr := Lib.hid hown
      have HBwr := Lib.hid hb
      have hwwr := hb.size
      clear hown hb hn HQ hfl
      by_cases h1 : s[k].toNat = 10
      · have h1a : ((s[k].toNat : Int) == 10) = true := by simp [h1]
        have HE := Lib.hid (show qB s[k] = [92, 110] by
          have := u8_eq (c := s[k]) (d := 10) (by rw [h1]; rfl)
          unfold qB; rw [if_pos this])
        clear h1
        go_wp2_with (at_builtin; refine put_byte (W := w) rfl _ _ rfl w.heap.size A (n) c (qP s k) rfl HOwr.out HBwr.out hwwr (by omega) 92 rfl 92 rfl ?_)
        intro Aa1 ca1 wa1 hown hb hwa1
        have HOa1 := Lib.hid hown
        have HBa1 := Lib.hid hb
        clear hown hb
        go_wp2_with (at_builtin; refine put_byte (W := w) rfl _ _ rfl w.heap.size Aa1 (n + 1) ca1 (qP s k ++ [92]) rfl HOa1.out HBa1.out hwa1 (by omega) 110 rfl 110 rfl ?_)
        intro Aa2 ca2 wa2 hown hb hwa2
        have HOa2 := Lib.hid hown
        have HBa2 := Lib.hid hb
        clear hown hb
        go_wp2_with fail
        go_roundw
        case rel => exact ⟨k + 1, by omega, by go_num, Lib.hid ⟨Aa2, n + 1 + 1, ca2, rfl, by rw [HS.out, HE.out]; have := HOa2.out; simpa using this, HBa2.out⟩⟩
        case measure => simp [intOf]; omega
      · have h1a : ((s[k].toNat : Int) == 10) = false := by simp; omega
        by_cases h2 : s[k].toNat = 34 ∨ s[k].toNat = 92
        · have HE := Lib.hid (show qB s[k] = [92, s[k]] by
            unfold qB
            rw [if_neg (fun e => h1 (by rw [e]; rfl)), if_pos]
            rcases h2 with h2 | h2
            · exact .inl (u8_eq (by rw [h2]; rfl))
            · exact .inr (u8_eq (by rw [h2]; rfl)))
          rcases h2 with h2 | h2
          · have h2a : ((s[k].toNat : Int) == 34) = true := by simp [h2]
            have h2b : ((s[k].toNat : Int) == 92) = false := by simp [h2]
            clear h1 h2
            go_wp2_with (at_builtin; refine put_byte (W := w) rfl _ _ rfl w.heap.size A (n) c (qP s k) rfl HOwr.out HBwr.out hwwr (by omega) 92 rfl 92 rfl ?_)
            intro Ab1 cb1 wb1 hown hb hwb1
            have HOb1 := Lib.hid hown
            have HBb1 := Lib.hid hb
            clear hown hb
            go_wp2_with (at_builtin; refine put_byte (W := w) rfl _ _ rfl w.heap.size Ab1 (n + 1) cb1 (qP s k ++ [92]) rfl HOb1.out HBb1.out hwb1 (by omega) (s[k].toNat : Int) rfl s[k] rfl ?_)
            intro Ab2 cb2 wb2 hown hb hwb2
            have HOb2 := Lib.hid hown
            have HBb2 := Lib.hid hb
            clear hown hb
            go_wp2_with fail
            go_roundw
            case rel => exact ⟨k + 1, by omega, by go_num, Lib.hid ⟨Ab2, n + 1 + 1, cb2, rfl, by rw [HS.out, HE.out]; have := HOb2.out; simpa using this, HBb2.out⟩⟩
            case measure => simp [intOf]; omega
          · have h2a : ((s[k].toNat : Int) == 34) = false := by simp [h2]
            have h2b : ((s[k].toNat : Int) == 92) = true := by simp [h2]
            clear h1 h2
            go_wp2_with (at_builtin; refine put_byte (W := w) rfl _ _ rfl w.heap.size A (n) c (qP s k) rfl HOwr.out HBwr.out hwwr (by omega) 92 rfl 92 rfl ?_)
            intro Ad1 cd1 wd1 hown hb hwd1
            have HOd1 := Lib.hid hown
            have HBd1 := Lib.hid hb
            clear hown hb
            go_wp2_with (at_builtin; refine put_byte (W := w) rfl _ _ rfl w.heap.size Ad1 (n + 1) cd1 (qP s k ++ [92]) rfl HOd1.out HBd1.out hwd1 (by omega) (s[k].toNat : Int) rfl s[k] rfl ?_)
            intro Ad2 cd2 wd2 hown hb hwd2
            have HOd2 := Lib.hid hown
            have HBd2 := Lib.hid hb
            clear hown hb
            go_wp2_with fail
            go_roundw
            case rel => exact ⟨k + 1, by omega, by go_num, Lib.hid ⟨Ad2, n + 1 + 1, cd2, rfl, by rw [HS.out, HE.out]; have := HOd2.out; simpa using this, HBd2.out⟩⟩
            case measure => simp [intOf]; omega
        · have h2a : ((s[k].toNat : Int) == 34) = false := by simp; omega
          have h2b : ((s[k].toNat : Int) == 92) = false := by simp; omega
          have HE := Lib.hid (show qB s[k] = [s[k]] by
            unfold qB
            rw [if_neg (fun e => h1 (by rw [e]; rfl)), if_neg]
            rintro (e | e)
            · exact h2 (.inl (by rw [e]; rfl))
            · exact h2 (.inr (by rw [e]; rfl)))
          clear h1 h2
          go_wp2_with (at_builtin; refine put_byte (W := w) rfl _ _ rfl w.heap.size A (n) c (qP s k) rfl HOwr.out HBwr.out hwwr (by omega) (s[k].toNat : Int) rfl s[k] rfl ?_)
          intro Ae1 ce1 we1 hown hb hwe1
          have HOe1 := Lib.hid hown
          have HBe1 := Lib.hid hb
          clear hown hb
          go_wp2_with fail
          go_roundw
          case rel => exact ⟨k + 1, by omega, by go_num, Lib.hid ⟨Ae1, n + 1, ce1, rfl, by rw [HS.out, HE.out]; have := HOe1.out; simpa using this, HBe1.out⟩⟩
          case measure => simp [intOf]; omega
    · obtain rfl : k = s.size := by omega
      have hki : ¬ ((s.size : Int) < (s.size : Int)) := by omega
      obtain ⟨A, n, c, rfl, hown, hb⟩ := HQ.out
      have hn := QRel.n (s := s) (w := w) (k := s.size) hown
      have hfl := flat_take s.data.toList s.size
      rw [data_len] at hfl
      have hn2 : n + 2 ≤ 1000000 := by rw [hn]; unfold qP; rw [List.length_cons]; omega
      have HOwr := Lib.hid hown
      have HBwr := Lib.hid hb
      have hwwr := hb.size
      clear hown hb hn HQ hfl
      go_wp2_with (at_builtin; refine put_byte (W := w) rfl _ _ rfl w.heap.size A n c (qP s s.size) rfl HOwr.out HBwr.out hwwr (by omega) 34 rfl 34 rfl ?_)
      intro A1 c1 w1 hown1 hb1 hw1
      have HB1 := Lib.hid hb1
      have hcv := conv_own hown1
      clear hown1 hb1
      go_wp2_with fail
      go_ret
      exact ⟨ret_str (by unfold quoteL qP; rw [List.take_of_length_le (by rw [data_len]; omega)]; rfl), HB1.out⟩
end Go.Proofs.Ytnnfoagdgoionab
