/- The program's Unquote. -/
import Derived.Test.YtnabfganecghkaaDoorLbC
import Derived.Laws.Concat
import Derived.Test.YtnabfganecghkaaDoorShelfS
import Derived.IntWalk
/-! A text in quotes: the program's Quote. -/
namespace Go.Proofs.YtnabfganecghkaaDoor.Lb
open Go.RowKit
set_option linter.unusedVariables false

/-- a byte between quotes -/
def qB (c : UInt8) : List UInt8 := if c = 10 then [92, 110] else if c = 34 ∨ c = 92 then [92, c] else [c]
def quoteL (l : List UInt8) : List UInt8 := 34 :: (l.flatMap qB ++ [34])
theorem qB_len (c : UInt8) : (qB c).length ≤ 2 := by
  unfold qB; split
  · simp
  · split <;> simp
theorem flat_len (l : List UInt8) : (l.flatMap qB).length ≤ 2 * l.length := by
  induction l with
  | nil => simp
  | cons a r ih => have := qB_len a; simp [List.flatMap_cons] at *; omega
theorem flat_take (l : List UInt8) (k : Nat) : ((l.take k).flatMap qB).length ≤ 2 * l.length := by
  have := flat_len (l.take k)
  have : (l.take k).length ≤ l.length := by rw [List.length_take]; omega
  omega
theorem data_at (s : ByteArray) (k : Nat) (h : k < s.size) : s.data.toList[k]? = some s[k] := by
  rw [List.getElem?_eq_getElem (by simpa using h)]; rfl
theorem data_len (s : ByteArray) : s.data.toList.length = s.size := rfl
theorem q_snoc (s : ByteArray) (k : Nat) (h : k < s.size) : (s.data.toList.take (k + 1)).flatMap qB = (s.data.toList.take k).flatMap qB ++ qB s[k] := by
  rw [take_snoc _ k _ (data_at s k h)]; simp
theorem u8_eq {c d : UInt8} (h : c.toNat = d.toNat) : c = d := UInt8.toNat_inj.1 h
/-- what Quote has made of the first k bytes -/
def qP (s : ByteArray) (k : Nat) : List UInt8 := 34 :: (s.data.toList.take k).flatMap qB

/-- what the loop of Quote knows -/
def QRel (s : ByteArray) (w : World) (k : Nat) (v : Value) (wr : World) : Prop :=
  ∃ (A : Option Addr) (n c : Nat), v = .slice A n c ∧ wr.ownsRow w.heap.size 5 1 (.slice A n c) n (byC (qP s k)) ∧ Below w.heap.size w wr
theorem QRel.n {s : ByteArray} {w wr : World} {k n c : Nat} {A : Option Addr} {X : List UInt8} (h : wr.ownsRow w.heap.size 5 1 (.slice A n c) n (byC X)) : n = X.length := by
  have := h.1
  rw [byC_length] at this
  omega

set_option maxHeartbeats 2000000 in
theorem quote_any (s : ByteArray) (w : World) (hs : s.size ≤ 4000) : Calls Tryd.prog 23 #[.string s] w fun e w' => e = .returned (.string ⟨(quoteL s.data.toList).toArray⟩) ∧ Below w.heap.size w w' := by
  go_enter Tryd.func23, Tryd.ntmps23
  go_wp2_with fail
  go_loopw [3, 9] (fun v i wr => ∃ k : Nat, k ≤ s.size ∧ i = .int .i64 k ∧ Hid (QRel s w k v wr)) (fun _ i _ => s.size - (intOf i).toNat)
  case atStart => exact ⟨0, by omega, rfl, Lib.hid ⟨_, _, _, rfl, ⟨by simp [byC, qP], .inr ⟨w.heap.size, 1, _, rfl, Nat.le_refl _, heap_alloc_new _ _, by omega, by unfold maxLen; omega, rfl, by simp [byC, qP]⟩⟩, (Below.refl _ _).alloc (Nat.le_refl _) _⟩⟩
  case round =>
    obtain ⟨k, hk, rfl, HQ⟩ := hrel
    by_cases hlt : k < s.size
    · have hki : (k : Int) < (s.size : Int) := by omega
      have hc := byte_lt s[k]
      obtain ⟨A, n, c, rfl, hown, hb⟩ := HQ.out
      have hn := QRel.n (s := s) (w := w) (k := k) hown
      have hfl := flat_take s.data.toList k
      rw [data_len] at hfl
      have hn2 : n + 2 ≤ 1000000 := by rw [hn]; unfold qP; rw [List.length_cons]; omega
      have HS := Lib.hid (show qP s (k + 1) = qP s k ++ qB s[k] by unfold qP; rw [q_snoc s k hlt]; rfl)
      have HOwr := Lib.hid hown
      have HBwr := Lib.hid hb
      have hwwr := hb.size
      clear hown hb hn HQ hfl
      by_cases h1 : s[k].toNat = 10
      · have h1a : ((s[k].toNat : Int) == 10) = true := by simp [h1]
        have HE := Lib.hid (show qB s[k] = [92, 110] by
          have := u8_eq (c := s[k]) (d := 10) (by rw [h1]; rfl)
          unfold qB; rw [if_pos this])
        clear h1
        go_wp2_with (at_builtin; refine put_byte (W := w) rfl _ _ rfl w.heap.size A (n) c (qP s k) rfl HOwr.out HBwr.out hwwr (by omega) 92 rfl 92 rfl ?_)
        intro Aa1 ca1 wa1 hown hb hwa1
        have HOa1 := Lib.hid hown
        have HBa1 := Lib.hid hb
        clear hown hb
        go_wp2_with (at_builtin; refine put_byte (W := w) rfl _ _ rfl w.heap.size Aa1 (n + 1) ca1 (qP s k ++ [92]) rfl HOa1.out HBa1.out hwa1 (by omega) 110 rfl 110 rfl ?_)
        intro Aa2 ca2 wa2 hown hb hwa2
        have HOa2 := Lib.hid hown
        have HBa2 := Lib.hid hb
        clear hown hb
        go_wp2_with fail
        go_roundw
        case rel => exact ⟨k + 1, by omega, by go_num, Lib.hid ⟨Aa2, n + 1 + 1, ca2, rfl, by rw [HS.out, HE.out]; have := HOa2.out; simpa using this, HBa2.out⟩⟩
        case measure => simp [intOf]; omega
      · have h1a : ((s[k].toNat : Int) == 10) = false := by simp; omega
        by_cases h2 : s[k].toNat = 34 ∨ s[k].toNat = 92
        · have HE := Lib.hid (show qB s[k] = [92, s[k]] by
            unfold qB
            rw [if_neg (fun e => h1 (by rw [e]; rfl)), if_pos]
            rcases h2 with h2 | h2
            · exact .inl (u8_eq (by rw [h2]; rfl))
            · exact .inr (u8_eq (by rw [h2]; rfl)))
          rcases h2 with h2 | h2
          · have h2a : ((s[k].toNat : Int) == 34) = true := by simp [h2]
            have h2b : ((s[k].toNat : Int) == 92) = false := by simp [h2]
            clear h1 h2
            go_wp2_with (at_builtin; refine put_byte (W := w) rfl _ _ rfl w.heap.size A (n) c (qP s k) rfl HOwr.out HBwr.out hwwr (by omega) 92 rfl 92 rfl ?_)
            intro Ab1 cb1 wb1 hown hb hwb1
            have HOb1 := Lib.hid hown
            have HBb1 := Lib.hid hb
            clear hown hb
            go_wp2_with (at_builtin; refine put_byte (W := w) rfl _ _ rfl w.heap.size Ab1 (n + 1) cb1 (qP s k ++ [92]) rfl HOb1.out HBb1.out hwb1 (by omega) (s[k].toNat : Int) rfl s[k] rfl ?_)
            intro Ab2 cb2 wb2 hown hb hwb2
            have HOb2 := Lib.hid hown
            have HBb2 := Lib.hid hb
            clear hown hb
            go_wp2_with fail
            go_roundw
            case rel => exact ⟨k + 1, by omega, by go_num, Lib.hid ⟨Ab2, n + 1 + 1, cb2, rfl, by rw [HS.out, HE.out]; have := HOb2.out; simpa using this, HBb2.out⟩⟩
            case measure => simp [intOf]; omega
          · have h2a : ((s[k].toNat : Int) == 34) = false := by simp [h2]
            have h2b : ((s[k].toNat : Int) == 92) = true := by simp [h2]
            clear h1 h2
            go_wp2_with (at_builtin; refine put_byte (W := w) rfl _ _ rfl w.heap.size A (n) c (qP s k) rfl HOwr.out HBwr.out hwwr (by omega) 92 rfl 92 rfl ?_)
            intro Ad1 cd1 wd1 hown hb hwd1
            have HOd1 := Lib.hid hown
            have HBd1 := Lib.hid hb
            clear hown hb
            go_wp2_with (at_builtin; refine put_byte (W := w) rfl _ _ rfl w.heap.size Ad1 (n + 1) cd1 (qP s k ++ [92]) rfl HOd1.out HBd1.out hwd1 (by omega) (s[k].toNat : Int) rfl s[k] rfl ?_)
            intro Ad2 cd2 wd2 hown hb hwd2
            have HOd2 := Lib.hid hown
            have HBd2 := Lib.hid hb
            clear hown hb
            go_wp2_with fail
            go_roundw
            case rel => exact ⟨k + 1, by omega, by go_num, Lib.hid ⟨Ad2, n + 1 + 1, cd2, rfl, by rw [HS.out, HE.out]; have := HOd2.out; simpa using this, HBd2.out⟩⟩
            case measure => simp [intOf]; omega
        · have h2a : ((s[k].toNat : Int) == 34) = false := by simp; omega
          have h2b : ((s[k].toNat : Int) == 92) = false := by simp; omega
          have HE := Lib.hid (show qB s[k] = [s[k]] by
            unfold qB
            rw [if_neg (fun e => h1 (by rw [e]; rfl)), if_neg]
            rintro (e | e)
            · exact h2 (.inl (by rw [e]; rfl))
            · exact h2 (.inr (by rw [e]; rfl)))
          clear h1 h2
          go_wp2_with (at_builtin; refine put_byte (W := w) rfl _ _ rfl w.heap.size A (n) c (qP s k) rfl HOwr.out HBwr.out hwwr (by omega) (s[k].toNat : Int) rfl s[k] rfl ?_)
          intro Ae1 ce1 we1 hown hb hwe1
          have HOe1 := Lib.hid hown
          have HBe1 := Lib.hid hb
          clear hown hb
          go_wp2_with fail
          go_roundw
          case rel => exact ⟨k + 1, by omega, by go_num, Lib.hid ⟨Ae1, n + 1, ce1, rfl, by rw [HS.out, HE.out]; have := HOe1.out; simpa using this, HBe1.out⟩⟩
          case measure => simp [intOf]; omega
    · obtain rfl : k = s.size := by omega
      have hki : ¬ ((s.size : Int) < (s.size : Int)) := by omega
      obtain ⟨A, n, c, rfl, hown, hb⟩ := HQ.out
      have hn := QRel.n (s := s) (w := w) (k := s.size) hown
      have hfl := flat_take s.data.toList s.size
      rw [data_len] at hfl
      have hn2 : n + 2 ≤ 1000000 := by rw [hn]; unfold qP; rw [List.length_cons]; omega
      have HOwr := Lib.hid hown
      have HBwr := Lib.hid hb
      have hwwr := hb.size
      clear hown hb hn HQ hfl
      go_wp2_with (at_builtin; refine put_byte (W := w) rfl _ _ rfl w.heap.size A n c (qP s s.size) rfl HOwr.out HBwr.out hwwr (by omega) 34 rfl 34 rfl ?_)
      intro A1 c1 w1 hown1 hb1 hw1
      have HB1 := Lib.hid hb1
      have hcv := conv_own hown1
      clear hown1 hb1
      go_wp2_with fail
      go_ret
      exact ⟨ret_str (by unfold quoteL qP; rw [List.take_of_length_le (by rw [data_len]; omega)]; rfl), HB1.out⟩
end Go.Proofs.YtnabfganecghkaaDoor.Lb

/-! A text in quotes: the document's Quote. -/
namespace Go.Proofs.YtnabfganecghkaaDoor.Lb
open Go.RowKit
set_option linter.unusedVariables false

/-- the text of these bytes -/
def tx (l : List UInt8) : ByteArray := ⟨l.toArray⟩
theorem tx_data (l : List UInt8) : (tx l).data.toList = l := rfl
theorem tx_size (l : List UInt8) : (tx l).size = l.length := rfl
theorem tx_of (s : ByteArray) : tx s.data.toList = s := by unfold tx; cases s; simp
theorem tx_inj {a b : List UInt8} (h : tx a = tx b) : a = b := by rw [← tx_data a, h, tx_data]
theorem add_tx {s t : ByteArray} {X Y : List UInt8} (hs : s = tx X) (ht : t = tx Y) (h : X.length + Y.length ≤ 9223372036854775807) : ∃ u, u = tx (X ++ Y) ∧ ∀ W : World, (Op.stringOp .add s t).run Tryd.prog W = .ok (.string u) W := by
  refine ⟨tx (X ++ Y), rfl, fun W => ?_⟩
  subst hs ht
  refine (run_string_add_sum W (tx X) (tx Y) (by rw [tx_size, tx_size]; exact h)).trans ?_
  rw [show tx X ++ tx Y = tx (X ++ Y) by
    apply ByteArray.ext
    simp [tx, ByteArray.data_append]]
theorem byte_tx (s : ByteArray) (k : Nat) (h : k < s.size) : s.extract k (k + 1) = tx [s[k]] := by
  rw [Lib.extract_eq]
  unfold tx
  congr 2
  apply List.ext_getElem?
  intro j
  rw [show k + 1 - k = 1 by omega]
  by_cases hj : j = 0
  · subst hj
    rw [List.getElem?_take_of_lt (by omega), List.getElem?_drop, Nat.add_zero, data_at s k h]; rfl
  · rw [List.getElem?_eq_none (by simp; omega), List.getElem?_eq_none (by simp; omega)]
set_option maxHeartbeats 2000000 in
theorem rquote_any (s : ByteArray) (w : World) (hs : s.size ≤ 4000) : Calls Tryd.prog 25 #[.string s] w fun e w' => e = .returned (.string ⟨(quoteL s.data.toList).toArray⟩) ∧ w = w' := by
  go_enter Tryd.func25, Tryd.ntmps25
  go_wp2_with fail
  go_loop [3, 4] (fun v i => ∃ k : Nat, ∃ T : ByteArray, k ≤ s.size ∧ i = .int .i64 k ∧ v = .string T ∧ Hid (T = tx (qP s k))) (fun _ i => s.size - (intOf i).toNat)
  case atStart => exact ⟨0, _, by omega, rfl, rfl, Lib.hid rfl⟩
  case round =>
    obtain ⟨k, T, hk, rfl, rfl, HT⟩ := hrel
    have hfl := flat_take s.data.toList k
    rw [data_len] at hfl
    have hlen : (qP s k).length ≤ 8100 := by unfold qP; rw [List.length_cons]; omega
    by_cases hlt : k < s.size
    · have hki : (k : Int) < (s.size : Int) := by omega
      have hc := byte_lt s[k]
      have HS := Lib.hid (show qP s (k + 1) = qP s k ++ qB s[k] by unfold qP; rw [q_snoc s k hlt]; rfl)
      have HX := Lib.hid (byte_tx s k hlt)
      by_cases h1 : s[k].toNat = 10
      · have h1a : ((s[k].toNat : Int) == 10) = true := by simp [h1]
        obtain ⟨U, hU, hadd⟩ := add_tx (s := T) (t := ⟨#[92, 110]⟩) (Y := [92, 110]) HT.out rfl (by simp; omega)
        have HU := Lib.hid (show U = tx (qP s (k + 1)) by
          have := u8_eq (c := s[k]) (d := 10) (by rw [h1]; rfl)
          rw [hU, HS.out]; unfold qB; rw [if_pos this])
        clear h1 hU hfl hlen
        go_wp2_with fail
        go_round
        case rel => exact ⟨k + 1, U, by omega, by go_num, rfl, HU⟩
        case measure => simp [intOf]; omega
      · have h1a : ((s[k].toNat : Int) == 10) = false := by simp; omega
        by_cases h2 : s[k].toNat = 34 ∨ s[k].toNat = 92
        · obtain ⟨U, hU, hadd⟩ := add_tx (s := T) (t := ⟨#[92]⟩) (Y := [92]) HT.out rfl (by simp; omega)
          obtain ⟨V, hV, hadd2⟩ := add_tx (s := U) (t := s.extract k (k + 1)) (Y := [s[k]]) hU HX.out (by simp; omega)
          have HV := Lib.hid (show V = tx (qP s (k + 1)) by
            rw [hV, HS.out]
            unfold qB
            rw [if_neg (fun e => h1 (by rw [e]; rfl)), if_pos]
            · simp
            · rcases h2 with h2 | h2
              · exact .inl (u8_eq (by rw [h2]; rfl))
              · exact .inr (u8_eq (by rw [h2]; rfl)))
          clear hU hV hfl hlen
          rcases h2 with h2 | h2
          · have h2a : ((s[k].toNat : Int) == 34) = true := by simp [h2]
            have h2b : ((s[k].toNat : Int) == 92) = false := by simp [h2]
            clear h1 h2
            go_wp2_with fail
            go_round
            case rel => exact ⟨k + 1, V, by omega, by go_num, rfl, HV⟩
            case measure => simp [intOf]; omega
          · have h2a : ((s[k].toNat : Int) == 34) = false := by simp [h2]
            have h2b : ((s[k].toNat : Int) == 92) = true := by simp [h2]
            clear h1 h2
            go_wp2_with fail
            go_round
            case rel => exact ⟨k + 1, V, by omega, by go_num, rfl, HV⟩
            case measure => simp [intOf]; omega
        · have h2a : ((s[k].toNat : Int) == 34) = false := by simp; omega
          have h2b : ((s[k].toNat : Int) == 92) = false := by simp; omega
          obtain ⟨V, hV, hadd2⟩ := add_tx (s := T) (t := s.extract k (k + 1)) (Y := [s[k]]) HT.out HX.out (by simp; omega)
          have HV := Lib.hid (show V = tx (qP s (k + 1)) by
            rw [hV, HS.out]
            unfold qB
            rw [if_neg (fun e => h1 (by rw [e]; rfl)), if_neg]
            rintro (e | e)
            · exact h2 (.inl (by rw [e]; rfl))
            · exact h2 (.inr (by rw [e]; rfl)))
          clear h1 h2 hV hfl hlen
          go_wp2_with fail
          go_round
          case rel => exact ⟨k + 1, V, by omega, by go_num, rfl, HV⟩
          case measure => simp [intOf]; omega
    · obtain rfl : k = s.size := by omega
      have hki : ¬ ((s.size : Int) < (s.size : Int)) := by omega
      obtain ⟨V, hV, hadd⟩ := add_tx (s := T) (t := ⟨#[34]⟩) (Y := [34]) HT.out rfl (by simp; omega)
      have HV := Lib.hid (show V = tx (quoteL s.data.toList) by
        rw [hV]; unfold quoteL qP; rw [List.take_of_length_le (by rw [data_len]; omega)]; rfl)
      clear hV hfl hlen
      go_wp2_with fail
      go_ret
      exact ⟨by rw [HV.out]; rfl, rfl⟩
end Go.Proofs.YtnabfganecghkaaDoor.Lb

/-! A text in quotes read: the program's Unquote. -/
namespace Go.Proofs.YtnabfganecghkaaDoor.Lb
open Go.RowKit
set_option linter.unusedVariables false

/-- does a text begin with this byte? -/
def hdB (l : List UInt8) (c : UInt8) : Bool := match l with
  | [] => false
  | a :: _ => a == c
theorem pref_one (l : List UInt8) (c : UInt8) : Lib.hasPrefix l [c] = hdB l c := by
  unfold Lib.hasPrefix
  cases l with
  | nil => rfl
  | cons a r => simp [hdB, List.isPrefixOf]; exact Bool.beq_comm
theorem pref_is (s : ByteArray) (c : UInt8) (w : World) (z : Bool) (h : hdB s.data.toList c = z) : Calls Tryd.prog 66 #[.string s, .string ⟨#[c]⟩] w fun e w' => e = .returned (.bool z) ∧ w = w' :=
  (Tryd.strings_HasPrefix s ⟨#[c]⟩ w).mono fun e w' ⟨he, hw⟩ => ⟨by rw [he, ← h, ← pref_one], hw.symm⟩
/-- what a backslash stands for, with what is behind it -/
def meantF (l : List UInt8) : Option UInt8 := if hdB l 110 = true then some 10 else if hdB l 34 = true then some 34 else if hdB l 92 = true then some 92 else none
def meantV (o : Option UInt8) : Value := match o with
  | some c => .tuple #[.int .u8 (c.toNat : Int), .bool true]
  | none => .tuple #[.int .u8 0, .bool false]
theorem hd_at {s : ByteArray} {c : UInt8} (h : hdB s.data.toList c = true) : ∃ h0 : 0 < s.size, s[0] = c := by
  cases hl : s.data.toList with
  | nil => rw [hl] at h; cases h
  | cons a r =>
    have hs : 0 < s.size := by rw [← data_len, hl]; simp
    refine ⟨hs, ?_⟩
    have := data_at s 0 hs
    rw [hl] at this h
    simp at this
    simp [hdB] at h
    rw [← this, h]
theorem meant_any (s : ByteArray) (w : World) : Calls Tryd.prog 67 #[.string s] w fun e w' => e = .returned (meantV (meantF s.data.toList)) ∧ w = w' := by
  by_cases h1 : hdB s.data.toList 110 = true
  · have HE := Lib.hid (show meantF s.data.toList = some 10 by unfold meantF; rw [if_pos h1])
    rw [HE.out]
    have H1 := Lib.hid h1
    clear h1
    go_enter Tryd.func67, Tryd.ntmps67
    go_wp2_with (first | (go_at_call 66; refine (pref_is _ 110 _ true H1.out).mono ?_; rintro e w' ⟨rfl, rfl⟩) | fail)
    go_ret2
    exact ⟨rfl, rfl⟩
  · have h1' : hdB s.data.toList 110 = false := by simpa using h1
    by_cases h2 : hdB s.data.toList 34 = true
    · have HE := Lib.hid (show meantF s.data.toList = some 34 by unfold meantF; rw [if_neg h1, if_pos h2])
      rw [HE.out]
      obtain ⟨h0, hc⟩ := hd_at h2
      have HC := Lib.hid hc
      have H1 := Lib.hid h1'
      have H2 := Lib.hid h2
      have h0i : (0 : Int) < (s.size : Int) := by omega
      clear h1 h1' h2 hc
      go_enter Tryd.func67, Tryd.ntmps67
      go_wp2_with fail
      refine (pref_is _ 110 _ false H1.out).mono ?_; rintro e w' ⟨rfl, rfl⟩
      go_wp2_with fail
      refine (pref_is _ 34 _ true H2.out).mono ?_; rintro e w' ⟨rfl, rfl⟩
      go_wp2_with fail
      go_ret2
      exact ⟨by rw [HC.out]; rfl, rfl⟩
    · have h2' : hdB s.data.toList 34 = false := by simpa using h2
      by_cases h3 : hdB s.data.toList 92 = true
      · have HE := Lib.hid (show meantF s.data.toList = some 92 by unfold meantF; rw [if_neg h1, if_neg h2, if_pos h3])
        rw [HE.out]
        obtain ⟨h0, hc⟩ := hd_at h3
        have HC := Lib.hid hc
        have H1 := Lib.hid h1'
        have H2 := Lib.hid h2'
        have H3 := Lib.hid h3
        have h0i : (0 : Int) < (s.size : Int) := by omega
        clear h1 h1' h2 h2' h3 hc
        go_enter Tryd.func67, Tryd.ntmps67
        go_wp2_with fail
        refine (pref_is _ 110 _ false H1.out).mono ?_; rintro e w' ⟨rfl, rfl⟩
        go_wp2_with fail
        refine (pref_is _ 34 _ false H2.out).mono ?_; rintro e w' ⟨rfl, rfl⟩
        go_wp2_with fail
        refine (pref_is _ 92 _ true H3.out).mono ?_; rintro e w' ⟨rfl, rfl⟩
        go_wp2_with fail
        go_ret2
        exact ⟨by rw [HC.out]; rfl, rfl⟩
      · have h3' : hdB s.data.toList 92 = false := by simpa using h3
        have HE := Lib.hid (show meantF s.data.toList = none by unfold meantF; rw [if_neg h1, if_neg h2, if_neg h3])
        rw [HE.out]
        have H1 := Lib.hid h1'
        have H2 := Lib.hid h2'
        have H3 := Lib.hid h3'
        clear h1 h1' h2 h2' h3 h3'
        go_enter Tryd.func67, Tryd.ntmps67
        go_wp2_with fail
        refine (pref_is _ 110 _ false H1.out).mono ?_; rintro e w' ⟨rfl, rfl⟩
        go_wp2_with fail
        refine (pref_is _ 34 _ false H2.out).mono ?_; rintro e w' ⟨rfl, rfl⟩
        go_wp2_with fail
        refine (pref_is _ 92 _ false H3.out).mono ?_; rintro e w' ⟨rfl, rfl⟩
        go_wp2_with fail
        go_ret2
        exact ⟨rfl, rfl⟩
end Go.Proofs.YtnabfganecghkaaDoor.Lb

/-! The program's Unquote. -/
namespace Go.Proofs.YtnabfganecghkaaDoor.Lb
open Go.RowKit
set_option linter.unusedVariables false

def unqR : List UInt8 → Option (List UInt8 × List UInt8)
  | [] => none
  | c :: r => if c = 34 then some ([], r) else if c = 10 then none else if c = 92 then
      (match r with
      | [] => none
      | d :: r2 => match meantF (d :: r2) with
        | none => none
        | some m => (unqR r2).map fun x => (m :: x.1, x.2))
      else (unqR r).map fun x => (c :: x.1, x.2)
theorem unqR_cons (c : UInt8) (r : List UInt8) : unqR (c :: r) = if c = 34 then some ([], r) else if c = 10 then none else if c = 92 then
      (match r with
      | [] => none
      | d :: r2 => match meantF (d :: r2) with
        | none => none
        | some m => (unqR r2).map fun x => (m :: x.1, x.2))
      else (unqR r).map fun x => (c :: x.1, x.2) := by rw [unqR.eq_def]
def unqF (l : List UInt8) : Option (List UInt8 × List UInt8) := if hdB l 34 = true then unqR (l.drop 1) else none
def preO (P : List UInt8) (o : Option (List UInt8 × List UInt8)) : Option (List UInt8 × List UInt8) := o.map fun x => (P ++ x.1, x.2)
theorem preO_nil (o : Option (List UInt8 × List UInt8)) : preO [] o = o := by cases o <;> rfl
theorem preO_snoc (P : List UInt8) (c : UInt8) (o : Option (List UInt8 × List UInt8)) : preO P (o.map fun x => (c :: x.1, x.2)) = preO (P ++ [c]) o := by
  cases o <;> simp [preO]
theorem drop_at (s : ByteArray) (k : Nat) (h : k < s.size) : s.data.toList.drop k = s[k] :: s.data.toList.drop (k + 1) := by
  rw [List.drop_eq_getElem_cons (by rw [data_len]; exact h)]; rfl
theorem ext_tx (s : ByteArray) (k : Nat) : s.extract k s.size = tx (s.data.toList.drop k) := by
  rw [Lib.extract_eq, List.take_of_length_le (by simp)]; rfl
theorem ext_data (s : ByteArray) (k : Nat) : (s.extract k s.size).data.toList = s.data.toList.drop k := by
  rw [ext_tx, tx_data]
theorem unq_end {s : ByteArray} {k : Nat} (h : k < s.size) (hc : s[k].toNat = 34) : unqR (s.data.toList.drop k) = some ([], s.data.toList.drop (k + 1)) := by
  rw [drop_at s k h, unqR_cons, if_pos (u8_eq (by rw [hc]; rfl))]
theorem unq_lf {s : ByteArray} {k : Nat} (h : k < s.size) (hc : s[k].toNat = 10) : unqR (s.data.toList.drop k) = none := by
  rw [drop_at s k h, unqR_cons, if_neg (fun e => by rw [e] at hc; exact absurd hc (by decide)), if_pos (u8_eq (by rw [hc]; rfl))]
theorem unq_bad {s : ByteArray} {k : Nat} (h : k < s.size) (hc : s[k].toNat = 92) (hm : meantF (s.data.toList.drop (k + 1)) = none) : unqR (s.data.toList.drop k) = none := by
  rw [drop_at s k h, unqR_cons, if_neg (fun e => by rw [e] at hc; exact absurd hc (by decide)), if_neg (fun e => by rw [e] at hc; exact absurd hc (by decide)), if_pos (u8_eq (by rw [hc]; rfl))]
  cases hd : s.data.toList.drop (k + 1) with
  | nil => rfl
  | cons d r2 => rw [hd] at hm; simp only [hm]
theorem unq_esc {s : ByteArray} {k : Nat} {m : UInt8} (h : k < s.size) (hc : s[k].toNat = 92) (hm : meantF (s.data.toList.drop (k + 1)) = some m) :
    k + 1 < s.size ∧ unqR (s.data.toList.drop k) = (unqR (s.data.toList.drop (k + 2))).map fun x => (m :: x.1, x.2) := by
  have hlt : k + 1 < s.size := by
    rcases Nat.lt_or_ge (k + 1) s.size with hlt | hge
    · exact hlt
    · rw [List.drop_eq_nil_of_le (by rw [data_len]; exact hge)] at hm
      cases hm
  refine ⟨hlt, ?_⟩
  rw [drop_at s k h, unqR_cons, if_neg (fun e => by rw [e] at hc; exact absurd hc (by decide)), if_neg (fun e => by rw [e] at hc; exact absurd hc (by decide)), if_pos (u8_eq (by rw [hc]; rfl))]
  rw [drop_at s (k + 1) hlt] at hm ⊢
  simp only [hm]
theorem unq_on {s : ByteArray} {k : Nat} (h : k < s.size) (h1 : s[k].toNat ≠ 34) (h2 : s[k].toNat ≠ 10) (h3 : s[k].toNat ≠ 92) :
    unqR (s.data.toList.drop k) = (unqR (s.data.toList.drop (k + 1))).map fun x => (s[k] :: x.1, x.2) := by
  rw [drop_at s k h, unqR_cons, if_neg (fun e => h1 (by rw [e]; rfl)), if_neg (fun e => h2 (by rw [e]; rfl)), if_neg (fun e => h3 (by rw [e]; rfl))]
theorem unq_over {s : ByteArray} : unqR (s.data.toList.drop s.size) = none := by
  rw [List.drop_eq_nil_of_le (by rw [data_len]; omega)]; rfl
/-- what is read, as Go hands it back -/
def unqV (o : Option (List UInt8 × List UInt8)) : Value := match o with
  | some (a, b) => .tuple #[.string (tx a), .string (tx b), .bool true]
  | none => .tuple #[.string ⟨#[]⟩, .string ⟨#[]⟩, .bool false]
def URel (s : ByteArray) (w : World) (k : Nat) (v : Value) (wr : World) : Prop :=
  ∃ (A : Option Addr) (n c : Nat) (P : List UInt8), v = .slice A n c ∧ P.length ≤ k ∧ unqR (s.data.toList.drop 1) = preO P (unqR (s.data.toList.drop k)) ∧ wr.ownsRow w.heap.size 5 1 (.slice A n c) n (byC P) ∧ Below w.heap.size w wr
theorem own_n {W w : World} {n c : Nat} {A : Option Addr} {X : List UInt8} (h : w.ownsRow W.heap.size 5 1 (.slice A n c) n (byC X)) : n = X.length := by
  have := h.1
  rw [byC_length] at this
  omega

set_option maxHeartbeats 2000000 in
theorem unquote_any (s : ByteArray) (w : World) (hs : s.size ≤ 4000) : Calls Tryd.prog 52 #[.string s] w fun e w' => e = .returned (unqV (unqF s.data.toList)) ∧ Below w.heap.size w w' := by
  by_cases h1 : hdB s.data.toList 34 = true
  · have HF := Lib.hid (show unqF s.data.toList = unqR (s.data.toList.drop 1) by unfold unqF; rw [if_pos h1])
    obtain ⟨V, hV⟩ : ∃ V, unqV (unqF s.data.toList) = V := ⟨_, rfl⟩
    have HV := Lib.hid hV
    rw [hV]
    obtain ⟨h0, _⟩ := hd_at h1
    have H1 := Lib.hid h1
    clear h1 hV
    go_enter Tryd.func52, Tryd.ntmps52
    go_wp2_with fail
    refine (pref_is _ 34 _ true H1.out).mono ?_; rintro e w' ⟨rfl, rfl⟩
    go_wp2_with fail
    go_loopw [5, 6] (fun v i wr => ∃ k : Nat, 1 ≤ k ∧ k ≤ s.size ∧ i = .int .i64 k ∧ Hid (URel s w k v wr)) (fun _ i _ => s.size - (intOf i).toNat)
    case atStart => exact ⟨1, by omega, by omega, rfl, Lib.hid ⟨none, 0, 0, [], rfl, by simp, (preO_nil _).symm, own_nil _ _ _ _, Below.refl _ _⟩⟩
    case round =>
      obtain ⟨k, hk1, hk, rfl, HQ⟩ := hrel
      obtain ⟨A, n, c, P, rfl, hP, hu, hown, hb⟩ := HQ.out
      have hn := own_n hown
      have hn2 : n + 1 ≤ 1000000 := by omega
      have HU := Lib.hid hu
      have HP := Lib.hid hP
      have HOwr := Lib.hid hown
      have HBwr := Lib.hid hb
      have hwwr := hb.size
      by_cases hlt : k < s.size
      · have hki : (k : Int) < (s.size : Int) := by omega
        have hc := byte_lt s[k]
        by_cases h1 : s[k].toNat = 34
        · have h1a : ((s[k].toNat : Int) == 34) = true := by simp [h1]
          have hcv := fun N => conv_own (own_drewN hown N)
          have HE := Lib.hid (show V = unqV (some (P, s.data.toList.drop (k + 1))) by rw [← HV.out, HF.out, hu, unq_end hlt h1]; simp [preO])
          have hx := ext_tx s (k + 1)
          obtain ⟨X, hX⟩ : ∃ X, s.extract (k + 1) s.size = X := ⟨_, rfl⟩
          have HX := Lib.hid (show V = .tuple #[.string ⟨P.toArray⟩, .string X, .bool true] by rw [HE.out, ← hX, hx]; rfl)
          clear hx h1 hown hb hu hP HQ hn
          have a1 : IntKind.i64.wrap ((k : Int) + 1) = (k : Int) + 1 := IntWalk.i64_in _ (by omega)
          have a2 : (0 : Int) ≤ (k : Int) + 1 := by omega
          have a3 : ((k : Int) + 1).toNat = k + 1 := by omega
          have a4 : (k : Int) + 1 ≤ (s.size : Int) := by omega
          go_wp2_with fail
          go_quiet (fail)
          go_wp2_with fail
          go_ret3
          exact ⟨by rw [HX.out]; rfl, below_drewN HBwr.out _⟩
        · have h1a : ((s[k].toNat : Int) == 34) = false := by simp; omega
          by_cases h2 : s[k].toNat = 10
          · have h2a : ((s[k].toNat : Int) == 10) = true := by simp [h2]
            have HE := Lib.hid (show V = unqV none by rw [← HV.out, HF.out, hu, unq_lf hlt h2]; rfl)
            clear h1 h2 hown hb hu hP HQ hn
            go_wp2_with fail
            go_ret3
            exact ⟨by rw [HE.out]; rfl, HBwr.out⟩
          · have h2a : ((s[k].toNat : Int) == 10) = false := by simp; omega
            by_cases h3 : s[k].toNat = 92
            · have h3a : ((s[k].toNat : Int) == 92) = true := by simp [h3]
              cases hm : meantF (s.data.toList.drop (k + 1)) with
              | none =>
                have HE := Lib.hid (show V = unqV none by rw [← HV.out, HF.out, hu, unq_bad hlt h3 hm]; rfl)
                have HM := Lib.hid (show meantF (s.extract (k + 1) s.size).data.toList = none by rw [ext_data]; exact hm)
                clear h1 h2 h3 hm hown hb hu hP HQ hn
                go_wp2_with fail
                refine (meant_any _ _).mono ?_
                rw [HM.out]
                rintro e w' ⟨rfl, rfl⟩
                simp only [meantV]
                go_wp2_with fail
                go_ret3
                exact ⟨by rw [HE.out]; rfl, HBwr.out⟩
              | some m =>
                obtain ⟨hk2, he⟩ := unq_esc hlt h3 hm
                have HE := Lib.hid (show unqR (s.data.toList.drop 1) = preO (P ++ [m]) (unqR (s.data.toList.drop (k + 2))) by rw [hu, he, preO_snoc])
                have HM := Lib.hid (show meantF (s.extract (k + 1) s.size).data.toList = some m by rw [ext_data]; exact hm)
                clear h1 h2 h3 hm he hown hb hu hP HQ hn
                go_wp2_with fail
                refine (meant_any _ _).mono ?_
                rw [HM.out]
                rintro e w' ⟨rfl, rfl⟩
                simp only [meantV]
                go_wp2_with (at_builtin; refine put_byte (W := w) rfl _ _ rfl w.heap.size A n c P rfl HOwr.out HBwr.out hwwr (by omega) (m.toNat : Int) rfl m rfl ?_)
                intro A1 c1 w1 hown1 hb1 hw1
                have HO1 := Lib.hid hown1
                have HB1 := Lib.hid hb1
                clear hown1 hb1
                go_wp2_with fail
                go_roundw
                case rel => exact ⟨k + 2, by omega, by omega, by go_num, Lib.hid ⟨A1, n + 1, c1, P ++ [m], rfl, by have := HP.out; simp; omega, HE.out, HO1.out, HB1.out⟩⟩
                case measure => simp [intOf]; omega
            · have h3a : ((s[k].toNat : Int) == 92) = false := by simp; omega
              have HE := Lib.hid (show unqR (s.data.toList.drop 1) = preO (P ++ [s[k]]) (unqR (s.data.toList.drop (k + 1))) by rw [hu, unq_on hlt h1 h2 h3, preO_snoc])
              clear h1 h2 h3 hown hb hu hP HQ hn
              go_wp2_with (at_builtin; refine put_byte (W := w) rfl _ _ rfl w.heap.size A n c P rfl HOwr.out HBwr.out hwwr (by omega) (s[k].toNat : Int) rfl s[k] rfl ?_)
              intro A1 c1 w1 hown1 hb1 hw1
              have HO1 := Lib.hid hown1
              have HB1 := Lib.hid hb1
              clear hown1 hb1
              go_wp2_with fail
              go_roundw
              case rel => exact ⟨k + 1, by omega, by omega, by go_num, Lib.hid ⟨A1, n + 1, c1, P ++ [s[k]], rfl, by have := HP.out; simp; omega, HE.out, HO1.out, HB1.out⟩⟩
              case measure => simp [intOf]; omega
      · obtain rfl : k = s.size := by omega
        have hki : ¬ ((s.size : Int) < (s.size : Int)) := by omega
        have HE := Lib.hid (show V = unqV none by rw [← HV.out, HF.out, hu, unq_over]; rfl)
        clear hown hb hu hP HQ hn
        go_wp2_with fail
        go_ret3
        exact ⟨by rw [HE.out]; rfl, HBwr.out⟩
  · have h1' : hdB s.data.toList 34 = false := by simpa using h1
    have HF := Lib.hid (show unqF s.data.toList = none by unfold unqF; rw [if_neg h1])
    rw [HF.out]
    have H1 := Lib.hid h1'
    clear h1 h1'
    go_enter Tryd.func52, Tryd.ntmps52
    go_wp2_with fail
    refine (pref_is _ 34 _ false H1.out).mono ?_; rintro e w' ⟨rfl, rfl⟩
    go_wp2_with fail
    go_ret3
    exact ⟨rfl, Below.refl _ _⟩
end Go.Proofs.YtnabfganecghkaaDoor.Lb
