/- A text in quotes read: the program's Unquote. -/
import Derived.Test.YtnnfoagdgoionabLbR
import Derived.Test.YtnnfoagdgoionabShelfS
namespace Go.Proofs.Ytnnfoagdgoionab
open Go.RowKit
set_option linter.unusedVariables false

/-- does a text begin with this byte? -/
def hdB (l : List UInt8) (c : UInt8) : Bool := match l with
  | [] => false
  | a :: _ => a == c
theorem pref_one (l : List UInt8) (c : UInt8) : Lib.hasPrefix l [c] = hdB l c := by
  unfold Lib.hasPrefix
  cases l with
  | nil => rfl
  | cons a r => simp [hdB, List.isPrefixOf]; exact Bool.beq_comm
theorem pref_is (s : ByteArray) (c : UInt8) (w : World) (z : Bool) (h : hdB s.data.toList c = z) : Calls Try.prog 42 #[.string s, .string ⟨#[c]⟩] w fun e w' => e = .returned (.bool z) ∧ w = w' :=
  (Try.strings_HasPrefix s ⟨#[c]⟩ w).mono fun e w' ⟨he, hw⟩ => ⟨by rw [he, ← h, ← pref_one], hw.symm⟩
/-- what a backslash stands for, with what is behind it -/
def meantF (l : List UInt8) : Option UInt8 := if hdB l 110 = true then some 10 else if hdB l 34 = true then some 34 else if hdB l 92 = true then some 92 else none
def meantV (o : Option UInt8) : Value := match o with
  | some c => .tuple #[.int .u8 (c.toNat : Int), .bool true]
  | none => .tuple #[.int .u8 0, .bool false]
theorem hd_at {s : ByteArray} {c : UInt8} (h : hdB s.data.toList c = true) : ∃ h0 : 0 < s.size, s[0] = c := by
  cases hl : s.data.toList with
  | nil => rw [hl] at h; cases h
  | cons a r =>
    have hs : 0 < s.size := by rw [← data_len, hl]; simp
    refine ⟨hs, ?_⟩
    have := data_at s 0 hs
    rw [hl] at this h
    simp at this
    simp [hdB] at h
    rw [← this, h]
theorem meant_any (s : ByteArray) (w : World) : Calls Try.prog 43 #[.string s] w fun e w' => e = .returned (meantV (meantF s.data.toList)) ∧ w = w' := by
  by_cases h1 : hdB s.data.toList 110 = true
  · have HE := Lib.hid (show meantF s.data.toList = some 10 by unfold meantF; rw [if_pos h1])
    rw [HE.out]
    have H1 := Lib.hid h1
    clear h1
    go_enter Try.func43, Try.ntmps43
    go_wp2_with (first | (go_at_call 42; refine (pref_is _ 110 _ true H1.out).mono ?_; rintro e w' ⟨rfl, rfl⟩) | fail)
    go_ret2
    exact ⟨rfl, rfl⟩
  · have h1' : hdB s.data.toList 110 = false := by simpa using h1
    by_cases h2 : hdB s.data.toList 34 = true
    · have HE := Lib.hid (show meantF s.data.toList = some 34 by unfold meantF; rw [if_neg h1, if_pos h2])
      rw [HE.out]
      obtain ⟨h0, hc⟩ := hd_at h2
      have HC := Lib.hid hc
      have H1 := Lib.hid h1'
      have H2 := Lib.hid h2
      have h0i : (0 : Int) < (s.size : Int) := by omega
      clear h1 h1' h2 hc
      go_enter Try.func43, Try.ntmps43
      go_wp2_with fail
      refine (pref_is _ 110 _ false H1.out).mono ?_; rintro e w' ⟨rfl, rfl⟩
      go_wp2_with fail
      refine (pref_is _ 34 _ true H2.out).mono ?_; rintro e w' ⟨rfl, rfl⟩
      go_wp2_with fail
      go_ret2
      exact ⟨by rw [HC.out]; rfl, rfl⟩
    · have h2' : hdB s.data.toList 34 = false := by simpa using h2
      by_cases h3 : hdB s.data.toList 92 = true
      · have HE := Lib.hid (show meantF s.data.toList = some 92 by unfold meantF; rw [if_neg h1, if_neg h2, if_pos h3])
        rw [HE.out]
        obtain ⟨h0, hc⟩ := hd_at h3
        have HC := Lib.hid hc
        have H1 := Lib.hid h1'
        have H2 := Lib.hid h2'
        have H3 := Lib.hid h3
        have h0i : (0 : Int) < (s.size : Int) := by omega
        clear h1 h1' h2 h2' h3 hc
        go_enter Try.func43, Try.ntmps43
        go_wp2_with fail
        refine (pref_is _ 110 _ false H1.out).mono ?_; rintro e w' ⟨rfl, rfl⟩
        go_wp2_with fail
        refine (pref_is _ 34 _ false H2.out).mono ?_; rintro e w' ⟨rfl, rfl⟩
        go_wp2_with fail
        refine (pref_is _ 92 _ true H3.out).mono ?_; rintro e w' ⟨rfl, rfl⟩
        go_wp2_with fail
        go_ret2
        exact ⟨by rw [HC.out]; rfl, rfl⟩
      · have h3' : hdB s.data.toList 92 = false := by simpa using h3
        have HE := Lib.hid (show meantF s.data.toList = none by unfold meantF; rw [if_neg h1, if_neg h2, if_neg h3])
        rw [HE.out]
        have H1 := Lib.hid h1'
        have H2 := Lib.hid h2'
        have H3 := Lib.hid h3'
        clear h1 h1' h2 h2' h3 h3'
        go_enter Try.func43, Try.ntmps43
        go_wp2_with fail
        refine (pref_is _ 110 _ false H1.out).mono ?_; rintro e w' ⟨rfl, rfl⟩
        go_wp2_with fail
        refine (pref_is _ 34 _ false H2.out).mono ?_; rintro e w' ⟨rfl, rfl⟩
        go_wp2_with fail
        refine (pref_is _ 92 _ false H3.out).mono ?_; rintro e w' ⟨rfl, rfl⟩
        go_wp2_with fail
        go_ret2
        exact ⟨rfl, rfl⟩
end Go.Proofs.Ytnnfoagdgoionab
