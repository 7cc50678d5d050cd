/- strings.ContainsAny at short texts of any bytes. -/
import Derived.Test.YtamhgbkdljggbaaLbC
import Derived.Test.YtamhgbkdljggbaaShelfS
import Derived.Lib.IndexAny
import Derived.Laws.RangeAny
import Derived.Deep.LoopGhost
import Derived.Laws.Runes
import Derived.Lib.OthersKept
namespace Go.Proofs.Ytamhgbkdljggbaa.Lb
open Go.RowKit

theorem stays {P : Program} {f : FuncId} {args : Array Value} {W : World} {v : Value} {row : Nat → World} {at_ : Nat} (same : row at_ = W) (h : Calls P f args W fun e w' => e = .returned v ∧ W = w') :
    Calls P f args W fun e w' => e = .returned v ∧ ∃ k, w' = row k := by
  refine h.mono ?_
  rintro e w' ⟨he, rfl⟩
  exact ⟨he, at_, same.symm⟩
theorem data_at (s : ByteArray) (k : Nat) (h : k < s.size) : s.data.toList[k]? = some s[k] := by
  rw [List.getElem?_eq_getElem (by simpa using h)]; rfl
set_option linter.unusedVariables false

theorem get_lt (s : ByteArray) (j : Nat) (h : j < s.size) : s.get! j = s[j] := by
  have := get_at s j h
  rwa [Nat.add_zero] at this
/-- what a rune that is no ASCII byte takes are bytes that are none -/
theorem decode_skip (s : ByteArray) (pos : Nat) (h : pos < s.size) (ha : 128 ≤ s[pos].toNat) :
    pos + (Utf8.decode s pos).2 ≤ s.size ∧ ∀ j, pos ≤ j → j < pos + (Utf8.decode s pos).2 → 128 ≤ (s.get! j).toNat := by
  have e0 := get_at s pos h
  have hn : ¬ (s[pos]).toNat < 128 := by omega
  have hone : pos + 1 ≤ s.size ∧ ∀ j, pos ≤ j → j < pos + 1 → 128 ≤ (s.get! j).toNat := by
    refine ⟨by omega, fun j h1 h2 => ?_⟩
    obtain rfl : j = pos := by omega
    rw [get_lt s j h]; exact ha
  simp only [Utf8.decode, e0, hn, if_false]
  split
  · rename_i hc
    simp only [Bool.and_eq_true, decide_eq_true_eq, beq_iff_eq] at hc
    split
    · refine ⟨by simp only; omega, fun j h1 h2 => ?_⟩
      simp only at h2
      rcases (show j = pos ∨ j = pos + 1 by omega) with rfl | rfl
      · rw [get_lt s j h]; exact ha
      · omega
    · exact hone
  · split
    · rename_i hc
      simp only [Bool.and_eq_true, decide_eq_true_eq, beq_iff_eq] at hc
      split
      · refine ⟨by simp only; omega, fun j h1 h2 => ?_⟩
        simp only at h2
        rcases (show j = pos ∨ j = pos + 1 ∨ j = pos + 2 by omega) with rfl | rfl | rfl
        · rw [get_lt s j h]; exact ha
        · omega
        · omega
      · exact hone
    · split
      · rename_i hc
        simp only [Bool.and_eq_true, decide_eq_true_eq, beq_iff_eq] at hc
        split
        · refine ⟨by simp only; omega, fun j h1 h2 => ?_⟩
          simp only at h2
          rcases (show j = pos ∨ j = pos + 1 ∨ j = pos + 2 ∨ j = pos + 3 by omega) with rfl | rfl | rfl | rfl
          · rw [get_lt s j h]; exact ha
          · omega
          · omega
          · omega
        · exact hone
      · exact hone
def sg : ByteArray := ⟨#[123, 125, 61, 44, 34]⟩
theorem sg_ascii : ∀ b ∈ sg.data.toList, b.toNat < 128 := by decide
theorem indexByte_none : ∀ (l : List UInt8) (c : UInt8), (∀ b ∈ l, b ≠ c) → Lib.indexByte l c = -1
  | [], c, _ => rfl
  | b :: l, c, h => by
    unfold Lib.indexByte
    have h1 : (b == c) = false := by simpa using h b (by simp)
    rw [h1, indexByte_none l c (fun x hx => h x (by simp [hx]))]
    rfl
theorem ib_high (k : Nat) (c : UInt8) (w : World) (hc : 128 ≤ c.toNat) : Calls Try.prog 71 #[.string (sg.extract k sg.size), .int .u8 (c.toNat : Int)] w fun e w' => e = .returned (.int .i64 (-1)) ∧ w = w' :=
  (Try.strings_IndexByte _ _ w).mono fun e w' ⟨he, hw⟩ => ⟨by
    rw [he, show ((c.toNat : Int)).toNat.toUInt8 = c by simp]
    rw [indexByte_none _ _ (fun b hb hbc => by
      have := sg_ascii b (mem_extract hb)
      rw [hbc] at this
      omega)], hw.symm⟩
end Go.Proofs.Ytamhgbkdljggbaa.Lb

/-! IndexRune of a rune that is no ASCII byte, in a text of ASCII bytes: there is none. -/
namespace Go.Proofs.Ytamhgbkdljggbaa.Lb
open Go.RowKit
set_option linter.unusedVariables false

def Asc (s : ByteArray) : Prop := ∀ b ∈ s.data.toList, b.toNat < 128
theorem asc_at {s : ByteArray} (h : Asc s) (i : Nat) (hi : i < s.size) : s[i].toNat < 128 := h _ (mem_of_at (data_at s i hi))
theorem ib_asc (s : ByteArray) (hs : Asc s) (k : Nat) (c : UInt8) (w : World) (hc : 128 ≤ c.toNat) : Calls Try.prog 71 #[.string (s.extract k s.size), .int .u8 (c.toNat : Int)] w fun e w' => e = .returned (.int .i64 (-1)) ∧ w = w' :=
  (Try.strings_IndexByte _ _ w).mono fun e w' ⟨he, hw⟩ => ⟨by
    rw [he, show ((c.toNat : Int)).toNat.toUInt8 = c by simp]
    rw [indexByte_none _ _ (fun b hb hbc => by
      have := hs b (mem_extract hb)
      rw [hbc] at this
      omega)], hw.symm⟩
theorem vr_is (r : Int) (w : World) (z : Bool) (h : Lib.validRune r = z) : Calls Try.prog 72 #[.int .i32 r] w fun e w' => e = .returned (.bool z) ∧ w = w' :=
  (Try.utf8_ValidRune r w).mono fun e w' ⟨he, hw⟩ => ⟨by rw [he, h], hw.symm⟩
def RuneP (w : World) (e : Ending) (w' : World) : Prop := e = .returned (.int .i64 (-1)) ∧ Below w.heap.size w w'
set_option maxRecDepth 200000 in
set_option maxHeartbeats 4000000 in
theorem rune_err (s : ByteArray) (w : World) (hs : Asc s) : Calls Try.prog 56 #[.string s, .int .i32 65533] w (RuneP w) := by
  have HS := Lib.hid hs
  clear hs
  go_enter Try.func56, Try.ntmps56
  go_wp2_with fail
  go_loopg [5, 6] s.size (fun g _ _ wx => ∃ i : Nat, i + g = s.size ∧ wx = w.iter s i)
  case atStart => exact ⟨0, by omega, rfl⟩
  case round =>
    obtain ⟨i, hig, rfl⟩ := hrel
    cases gk with
    | zero =>
      obtain rfl : i = s.size := by omega
      have hnx := run_next_end (P := Try.prog) w s s.size
      go_wp2_with fail
      go_ret
      exact ⟨rfl, (Below.refl _ _).alloc (Nat.le_refl _) _⟩
    | succ g =>
      have hi : i < s.size := by omega
      obtain ⟨x, hx⟩ : ∃ x : UInt8, s[i]'hi = x := ⟨_, rfl⟩
      have hx128 : x.toNat < 128 := hx ▸ asc_at HS.out i hi
      have hnx := fun ty => run_next_ascii (P := Try.prog) w s i ty hi (by rw [hx]; exact hx128)
      rw [hx] at hnx
      have hne : ((x.toNat : Int) == 65533) = false := by simp; omega
      clear hx
      go_wp2_with fail
      go_roundg g
      case measure => omega
      case rel => exact ⟨i + 1, by omega, rfl⟩
set_option maxRecDepth 200000 in
set_option maxHeartbeats 8000000 in
theorem rune_high (s : ByteArray) (h4 : s.size = 2) (hs : Asc s) (hsz9 : s.size ≤ 4000) (r : Int) (h128 : 128 ≤ r) (hmax : r ≤ 2147483647) (hne3 : r ≠ 65533) (w : World) : Calls Try.prog 56 #[.string s, .int .i32 r] w (RuneP w) := by
  have HS := Lib.hid hs
  have H4 := Lib.hid h4
  clear h4
  have hr1 : ¬ (r < 128) := by omega
  have hr2 : (r == 65533) = false := by simp [hne3]
  clear hs
  by_cases hv : Lib.validRune r = true
  · have HV := Lib.hid hv
    obtain ⟨hz2, hz4, hb⟩ := encode_facts r (by rw [validRune_eq]; exact hv) h128
    obtain ⟨rs, hrs⟩ : ∃ rs, Utf8.encode r = rs := ⟨_, rfl⟩
    rw [hrs] at hz2 hz4 hb
    have hcv : ∀ W : World, (convert 21 9 (.int .i32 r)).run Try.prog W = .ok (.string rs) W := fun W => by rw [← hrs]; exact run_convert_int_string W _ _ _ r (by rw [Try.underlying21]; rfl) Try.underlying9
    clear hv hne3
    rcases (show rs.size = 2 ∨ rs.size = 3 ∨ rs.size = 4 by omega) with hsz | hsz | hsz
    · have hbi : 128 ≤ rs[1].toNat := by
        have h1 := hb (by omega)
        have e : rs.size - 1 = 1 := by omega
        simp only [e] at h1
        exact h1
      have hbl := byte_lt rs[1]
      have hs0 : 1 < s.size := by have := H4.out; omega
      have hwr2 : IntKind.i64.wrap 2 = 2 := by decide
      have hst : s[1].toNat < 128 := asc_at HS.out 1 (by have := H4.out; omega)
      have hne : ((s[1].toNat : Int) != (rs[1].toNat : Int)) = true := by simp; omega
      have hs1 : (1 : Int) < (s.size : Int) := by omega
      have hs2 : (2 : Int) ≤ (s.size : Int) := by have := H4.out; omega
      have HB := Lib.hid hbi
      clear hb hbi hst
      go_enter Try.func56, Try.ntmps56
      go_wp2_with fail
      refine (vr_is _ _ true HV.out).mono ?_
      rintro e w' ⟨rfl, rfl⟩
      go_wp2_with fail
      go_step3
      go_wp2_with fail
      refine wp_loop_rounds 1 ?_
      rw [rounds_succ]
      go_wp2_with fail
      go_step3
      go_wp2_with fail
      go_quiet (fail)
      go_wp2_with fail
      go_quiet ((go_at_call 71; exact stays rfl (ib_asc s HS.out 2 rs[1] _ HB.out)))
      go_wp2_with fail
      try rw [Exit.noGoto_ret]
      go_ret
      exact ⟨rfl, below_drewN (Below.refl _ _) _⟩
    all_goals
      have hs1 : ¬ ((rs.size : Int) - 1 < (s.size : Int)) := by have := H4.out; omega
      have hs3 : ¬ ((2 : Int) < (s.size : Int)) := by have := H4.out; omega
      have hs4 : ¬ ((3 : Int) < (s.size : Int)) := by have := H4.out; omega
      clear hb
      go_enter Try.func56, Try.ntmps56
      go_wp2_with fail
      refine (vr_is _ _ true HV.out).mono ?_
      rintro e w' ⟨rfl, rfl⟩
      go_wp2_with fail
      go_step3
      go_wp2_with fail
      refine wp_loop_rounds 1 ?_
      rw [rounds_succ]
      go_wp2_with fail
      try rw [Exit.noGoto_ret]
      go_ret
      exact ⟨rfl, Below.refl _ _⟩
  · have hv' : Lib.validRune r = false := by simpa using hv
    have HV := Lib.hid hv'
    clear hv hv' hne3
    go_enter Try.func56, Try.ntmps56
    go_wp2_with fail
    refine (vr_is _ _ false HV.out).mono ?_
    rintro e w' ⟨rfl, rfl⟩
    go_wp2_with fail
    go_ret
    exact ⟨rfl, Below.refl _ _⟩
end Go.Proofs.Ytamhgbkdljggbaa.Lb

/-! IndexAny at any short text; at any text. -/
namespace Go.Proofs.Ytamhgbkdljggbaa.Lb
open Go.RowKit
set_option linter.unusedVariables false

theorem below_iter {B g : Nat} {a w : World} {s : ByteArray} {pos : Nat} (h : Below B a w) (hg : B ≤ g) : Below B a (w.iterAt g s pos) := by
  refine ⟨h.os, h.tape, h.output, by simp [World.iterAt]; exact h.size, fun k hk => ?_⟩
  rw [← h.block k hk]
  show (w.heap.setIfInBounds g _)[k]? = _
  rw [Array.getElem?_setIfInBounds_ne (by omega)]
def TRel (s chars : ByteArray) (w : World) (i : Nat) (wx : World) : Prop := Lib.NoAny s.data.toList chars.data.toList i ∧ wx.heap[w.heap.size]? = some (.stringIter s i) ∧ Below w.heap.size w wx
theorem no_skip {s chars : ByteArray} {i d : Nat} (h : Lib.NoAny s.data.toList chars.data.toList i) (hc : Asc chars) (hd : ∀ j, i ≤ j → j < i + d → 128 ≤ (s.get! j).toNat) (hle : i + d ≤ s.size) : Lib.NoAny s.data.toList chars.data.toList (i + d) := by
  intro j b hj hb
  by_cases hji : j < i
  · exact h j b hji hb
  · have h1 := hd j (by omega) hj
    have hjs : j < s.size := by omega
    rw [data_at s j hjs] at hb
    injection hb with hb
    rw [get_lt s j hjs, hb] at h1
    cases hcb : chars.data.toList.contains b with
    | false => rfl
    | true =>
      have := hc b (List.contains_iff_mem.1 hcb)
      omega
theorem irune_ascii (chars : ByteArray) (x : UInt8) (w : World) (hx : x.toNat < 128) (z : Bool) (hz : chars.data.toList.contains x = z) : Calls Try.prog 56 #[.string chars, .int .i32 (x.toNat : Int)] w fun e w' => (∃ v : Int, e = .returned (.int .i64 v) ∧ decide (0 ≤ v) = z) ∧ w = w' :=
  (Try.strings_IndexRune_ascii chars (x.toNat : Int) w (by omega) (by omega)).mono fun e w' ⟨he, hw⟩ => ⟨⟨_, he, by
    rw [show ((x.toNat : Int)).toNat.toUInt8 = x by simp, ← hz]
    exact (Lib.contains_iff_indexByte chars.data.toList x).symm⟩, hw.symm⟩
theorem use8_is (n : Int) (w : World) (z : Bool) (h : decide (8 < n) = z) : Calls Try.prog 57 #[.int .i64 n] w fun e w' => e = .returned (.bool z) ∧ w = w' :=
  (Try.strings_shouldUseASCIISet n w).mono fun e w' ⟨he, hw⟩ => ⟨by rw [he, h], hw.symm⟩
set_option maxRecDepth 100000 in
set_option maxHeartbeats 4000000 in
theorem short_any (s chars : ByteArray) (h4 : chars.size = 2) (hc : Asc chars) (hc9 : chars.size ≤ 4000) (h8 : s.size ≤ 8) (w : World) :
    Calls Try.prog 53 #[.string s, .string chars] w fun e w' => e = .returned (.int .i64 (Lib.indexAny s.data.toList chars.data.toList)) ∧ Below w.heap.size w w' := by
  have HC := Lib.hid hc
  have hemp : chars.toList.isEmpty = false := by
    rw [Lib.toList_data]
    cases h : chars.data.toList with
    | nil => have := Lib.size_eq chars; rw [h, List.length_nil] at this; omega
    | cons _ _ => rfl
  have hn1 : ((chars.size : Int) == 1) = false := beq_eq_false_iff_ne.2 (by omega)
  have h8z : decide ((8 : Int) < (s.size : Int)) = false := decide_eq_false (by omega)
  have H8 := Lib.hid h8z
  obtain ⟨V, hV⟩ : ∃ V, Lib.indexAny s.data.toList chars.data.toList = V := ⟨_, rfl⟩
  have HV := Lib.hid hV
  rw [hV]
  clear hc hV h8z
  go_enter Try.func53, Try.ntmps53
  go_wp2_with fail
  refine (use8_is _ _ false H8.out).mono ?_
  rintro e w' ⟨rfl, rfl⟩
  go_wp2_with fail
  go_loopg [9, 10] s.size (fun g _ _ wx => ∃ i : Nat, i + g = s.size ∧ Hid (TRel s chars w i wx))
  case atStart => exact ⟨0, by omega, Lib.hid ⟨Lib.NoAny.zero _ _, World.iter_heap w s 0, (Below.refl _ _).alloc (Nat.le_refl _) _⟩⟩
  case round =>
    obtain ⟨i, hig, HR⟩ := hrel
    obtain ⟨hno, hit, hbw⟩ := HR.out
    by_cases hi : i < s.size
    · obtain ⟨x, hx⟩ : ∃ x : UInt8, s[i]'hi = x := ⟨_, rfl⟩
      have hxl := data_at s i hi
      rw [hx] at hxl
      have HX := Lib.hid hxl
      have HN := Lib.hid hno
      have HB := Lib.hid hbw
      have HI := Lib.hid hit
      by_cases hx128 : x.toNat < 128
      · have hnx := fun ty => Lib.run_next_ascii_at (P := Try.prog) _ w.heap.size s i ty hit hi (by rw [hx]; exact hx128)
        rw [hx] at hnx
        have HX8 := Lib.hid hx128
        obtain ⟨z, hz⟩ : ∃ z, chars.data.toList.contains x = z := ⟨_, rfl⟩
        have HZ := Lib.hid hz
        clear hx hxl hno hbw hit HR hz
        go_wp2_with fail
        refine (irune_ascii chars x _ HX8.out z HZ.out).mono ?_
        rintro e w3 ⟨⟨v, rfl, hv⟩, rfl⟩
        clear hnx
        cases z with
        | true =>
          have hv' : (0 : Int) ≤ v := of_decide_eq_true hv
          have HE := Lib.hid (show V = (i : Int) by rw [← HV.out]; exact Lib.indexAny_hit HN.out HX.out HZ.out)
          clear hv
          go_wp2_with fail
          go_ret
          exact ⟨ret_int HE.out.symm, below_iter HB.out (Nat.le_refl _)⟩
        | false =>
          have hv' : ¬ ((0 : Int) ≤ v) := of_decide_eq_false hv
          have HE := Lib.hid (HN.out.succ HX.out HZ.out)
          clear hv
          go_wp2_with fail
          go_roundg (gk - 1)
          case measure => omega
          case rel => exact ⟨i + 1, by omega, Lib.hid ⟨HE.out, Lib.iterAt_heap _ _ _ _ _ HI.out, below_iter HB.out (Nat.le_refl _)⟩⟩
      · have hnx := fun ty => Lib.run_next_any_at (P := Try.prog) _ w.heap.size s i ty hit hi
        obtain ⟨hd1, hd2⟩ := decode_high s i hi (by rw [hx]; omega)
        obtain ⟨hk1, hk2⟩ := decode_skip s i hi (by rw [hx]; omega)
        have hle := decode_le s i
        obtain ⟨r, hr⟩ : ∃ r, (Utf8.decode s i).1 = r := ⟨_, rfl⟩
        obtain ⟨d, hd⟩ : ∃ d, (Utf8.decode s i).2 = d := ⟨_, rfl⟩
        rw [hr] at hd1 hle
        rw [hd] at hd2 hk1 hk2
        have hnx' : ∀ ty, _ := hnx
        rw [hr, hd] at hnx'
        have HE := Lib.hid (no_skip HN.out HC.out hk2 hk1)
        clear hx hxl hno hbw hit HR hnx hk2 hr hd
        go_wp2_with fail
        by_cases h3 : r = 65533
        · subst h3
          refine (rune_err chars _ HC.out).mono ?_
          rintro e w3 ⟨rfl, hb3⟩
          have HB3 := Lib.hid ((below_iter (s := s) (pos := i + d) HB.out (Nat.le_refl _)).trans (hb3.mono (below_iter (s := s) (pos := i + d) HB.out (Nat.le_refl _)).size))
          have HI3 := Lib.hid ((hb3.block w.heap.size (Array.getElem?_eq_some_iff.1 (Lib.iterAt_heap _ _ _ _ (i + d) HI.out)).1).trans (Lib.iterAt_heap _ _ _ _ (i + d) HI.out))
          clear hb3 hnx'
          go_wp2_with fail
          go_roundg (gk - d)
          case measure => omega
          case rel => exact ⟨i + d, by omega, Lib.hid ⟨HE.out, HI3.out, HB3.out⟩⟩
        · refine (rune_high chars h4 HC.out hc9 (r : Int) (by omega) (by omega) (by omega) _).mono ?_
          rintro e w3 ⟨rfl, hb3⟩
          have HB3 := Lib.hid ((below_iter (s := s) (pos := i + d) HB.out (Nat.le_refl _)).trans (hb3.mono (below_iter (s := s) (pos := i + d) HB.out (Nat.le_refl _)).size))
          have HI3 := Lib.hid ((hb3.block w.heap.size (Array.getElem?_eq_some_iff.1 (Lib.iterAt_heap _ _ _ _ (i + d) HI.out)).1).trans (Lib.iterAt_heap _ _ _ _ (i + d) HI.out))
          clear hb3 hnx'
          go_wp2_with fail
          go_roundg (gk - d)
          case measure => omega
          case rel => exact ⟨i + d, by omega, Lib.hid ⟨HE.out, HI3.out, HB3.out⟩⟩
    · obtain rfl : i = s.size := by omega
      have hnx := fun ty => Lib.run_next_end_at (P := Try.prog) _ w.heap.size s s.size ty hit (by omega)
      have HB := Lib.hid hbw
      have HE := Lib.hid (show V = -1 by rw [← HV.out]; exact Lib.indexAny_none (by rw [← Lib.size_eq]; exact hno))
      clear hno hit hbw HR
      go_wp2_with fail
      go_ret
      exact ⟨ret_int HE.out.symm, HB.out⟩
def chS : ByteArray := ⟨#[47, 0]⟩
theorem chS_asc : Asc chS := by unfold Asc chS; decide
theorem ix_dk (s : ByteArray) (hs : s.size ≤ 64) (w : World) : Calls Try.prog 53 #[.string s, .string chS] w fun e w' => e = .returned (.int .i64 (Lib.indexAny s.data.toList chS.data.toList)) ∧ Below w.heap.size w w' := by
  by_cases h8 : s.size ≤ 8
  · exact short_any s chS (by decide) chS_asc (by decide) h8 w
  · refine (Try.strings_IndexAny_long (fun w => by kernel_rfl) s chS w (by decide) (by omega) (by omega) (by decide) (fun j b hb => chS_asc b (mem_of_at hb))).mono ?_
    rintro e w' ⟨he, rfl⟩
    exact ⟨he, ((Below.refl _ _).alloc (Nat.le_refl _) _).alloc (by simp) _⟩
def hasS (s : ByteArray) : Bool := decide (0 ≤ Lib.indexAny s.data.toList chS.data.toList)
theorem contains_any (s : ByteArray) (hs : s.size ≤ 64) (w : World) : Calls Try.prog 41 #[.string s, .string ⟨#[47, 0]⟩] w fun e w' => e = .returned (.bool (hasS s)) ∧ Below w.heap.size w w' := by
  have HI := Lib.hid (ix_dk s hs w)
  obtain ⟨z, hz⟩ : ∃ z, Lib.indexAny s.data.toList chS.data.toList = z := ⟨_, rfl⟩
  unfold hasS
  rw [hz] at HI ⊢
  obtain ⟨C, hC⟩ : ∃ C, chS = C := ⟨_, rfl⟩
  have hC2 : (⟨#[47, 0]⟩ : ByteArray) = C := hC
  rw [hC] at HI
  rw [hC2]
  clear hz hs hC hC2
  go_enter Try.func41, Try.ntmps41
  go_wp2_with fail
  refine HI.out.mono ?_
  rintro e w' ⟨rfl, hb⟩
  go_wp2_with fail
  go_ret
  exact ⟨rfl, hb⟩
end Go.Proofs.Ytamhgbkdljggbaa.Lb
