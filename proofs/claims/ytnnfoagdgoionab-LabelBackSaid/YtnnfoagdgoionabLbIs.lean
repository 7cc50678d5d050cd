/- IndexAny at any short text; at any text. -/
import Derived.Test.YtnnfoagdgoionabLbIr
import Derived.Lib.OthersKept
namespace Go.Proofs.Ytnnfoagdgoionab
open Go.RowKit
set_option linter.unusedVariables false

theorem below_iter {B g : Nat} {a w : World} {s : ByteArray} {pos : Nat} (h : Below B a w) (hg : B ≤ g) : Below B a (w.iterAt g s pos) := by
  refine ⟨h.os, h.tape, h.output, by simp [World.iterAt]; exact h.size, fun k hk => ?_⟩
  rw [← h.block k hk]
  show (w.heap.setIfInBounds g _)[k]? = _
  rw [Array.getElem?_setIfInBounds_ne (by omega)]
def TRel (s chars : ByteArray) (w : World) (i : Nat) (wx : World) : Prop := Lib.NoAny s.data.toList chars.data.toList i ∧ wx.heap[w.heap.size]? = some (.stringIter s i) ∧ Below w.heap.size w wx
theorem no_skip {s chars : ByteArray} {i d : Nat} (h : Lib.NoAny s.data.toList chars.data.toList i) (hc : Asc chars) (hd : ∀ j, i ≤ j → j < i + d → 128 ≤ (s.get! j).toNat) (hle : i + d ≤ s.size) : Lib.NoAny s.data.toList chars.data.toList (i + d) := by
  intro j b hj hb
  by_cases hji : j < i
  · exact h j b hji hb
  · have h1 := hd j (by omega) hj
    have hjs : j < s.size := by omega
    rw [data_at s j hjs] at hb
    injection hb with hb
    rw [get_lt s j hjs, hb] at h1
    cases hcb : chars.data.toList.contains b with
    | false => rfl
    | true =>
      have := hc b (List.contains_iff_mem.1 hcb)
      omega
theorem irune_ascii (chars : ByteArray) (x : UInt8) (w : World) (hx : x.toNat < 128) (z : Bool) (hz : chars.data.toList.contains x = z) : Calls Try.prog 80 #[.string chars, .int .i32 (x.toNat : Int)] w fun e w' => (∃ v : Int, e = .returned (.int .i64 v) ∧ decide (0 ≤ v) = z) ∧ w = w' :=
  (Try.strings_IndexRune_ascii chars (x.toNat : Int) w (by omega) (by omega)).mono fun e w' ⟨he, hw⟩ => ⟨⟨_, he, by
    rw [show ((x.toNat : Int)).toNat.toUInt8 = x by simp, ← hz]
    exact (Lib.contains_iff_indexByte chars.data.toList x).symm⟩, hw.symm⟩
theorem use8_is (n : Int) (w : World) (z : Bool) (h : decide (8 < n) = z) : Calls Try.prog 81 #[.int .i64 n] w fun e w' => e = .returned (.bool z) ∧ w = w' :=
  (Try.strings_shouldUseASCIISet n w).mono fun e w' ⟨he, hw⟩ => ⟨by rw [he, h], hw.symm⟩
set_option maxRecDepth 100000 in
set_option maxHeartbeats 4000000 in
theorem short_any (s chars : ByteArray) (h4 : 4 ≤ chars.size) (hc : Asc chars) (hc9 : chars.size ≤ 4000) (h8 : s.size ≤ 8) (w : World) :
    Calls Try.prog 71 #[.string s, .string chars] w fun e w' => e = .returned (.int .i64 (Lib.indexAny s.data.toList chars.data.toList)) ∧ Below w.heap.size w w' := by
  have HC := Lib.hid hc
  have hemp : chars.toList.isEmpty = false := by
    rw [Lib.toList_data]
    cases h : chars.data.toList with
    | nil => have := Lib.size_eq chars; rw [h, List.length_nil] at this; omega
    | cons _ _ => rfl
  have hn1 : ((chars.size : Int) == 1) = false := beq_eq_false_iff_ne.2 (by omega)
  have h8z : decide ((8 : Int) < (s.size : Int)) = false := decide_eq_false (by omega)
  have H8 := Lib.hid h8z
  obtain ⟨V, hV⟩ : ∃ V, Lib.indexAny s.data.toList chars.data.toList = V := ⟨_, rfl⟩
  have HV := Lib.hid hV
  rw [hV]
  clear hc hV h8z
  go_enter Try.func71, Try.ntmps71
  go_wp2_with fail
  refine (use8_is _ _ false H8.out).mono ?_
  rintro e w' ⟨rfl, rfl⟩
  go_wp2_with fail
  go_loopg [9, 10] s.size (fun g _ _ wx => ∃ i : Nat, i + g = s.size ∧ Hid (TRel s chars w i wx))
  case atStart => exact ⟨0, by omega, Lib.hid ⟨Lib.NoAny.zero _ _, World.iter_heap w s 0, (Below.refl _ _).alloc (Nat.le_refl _) _⟩⟩
  case round =>
    obtain ⟨i, hig, HR⟩ := hrel
    obtain ⟨hno, hit, hbw⟩ := HR.out
    by_cases hi : i < s.size
    · obtain ⟨x, hx⟩ : ∃ x : UInt8, s[i]'hi = x := ⟨_, rfl⟩
      have hxl := data_at s i hi
      rw [hx] at hxl
      have HX := Lib.hid hxl
      have HN := Lib.hid hno
      have HB := Lib.hid hbw
      have HI := Lib.hid hit
      by_cases hx128 : x.toNat < 128
      · have hnx := fun ty => Lib.run_next_ascii_at (P := Try.prog) _ w.heap.size s i ty hit hi (by rw [hx]; exact hx128)
        rw [hx] at hnx
        have HX8 := Lib.hid hx128
        obtain ⟨z, hz⟩ : ∃ z, chars.data.toList.contains x = z := ⟨_, rfl⟩
        have HZ := Lib.hid hz
        clear hx hxl hno hbw hit HR hz
        go_wp2_with fail
        refine (irune_ascii chars x _ HX8.out z HZ.out).mono ?_
        rintro e w3 ⟨⟨v, rfl, hv⟩, rfl⟩
        clear hnx
        cases z with
        | true =>
          have hv' : (0 : Int) ≤ v := of_decide_eq_true hv
          have HE := Lib.hid (show V = (i : Int) by rw [← HV.out]; exact Lib.indexAny_hit HN.out HX.out HZ.out)
          clear hv
          go_wp2_with fail
          go_ret
          exact ⟨ret_int HE.out.symm, below_iter HB.out (Nat.le_refl _)⟩
        | false =>
          have hv' : ¬ ((0 : Int) ≤ v) := of_decide_eq_false hv
          have HE := Lib.hid (HN.out.succ HX.out HZ.out)
          clear hv
          go_wp2_with fail
          go_roundg (gk - 1)
          case measure => omega
          case rel => exact ⟨i + 1, by omega, Lib.hid ⟨HE.out, Lib.iterAt_heap _ _ _ _ _ HI.out, below_iter HB.out (Nat.le_refl _)⟩⟩
      · have hnx := fun ty => Lib.run_next_any_at (P := Try.prog) _ w.heap.size s i ty hit hi
        obtain ⟨hd1, hd2⟩ := decode_high s i hi (by rw [hx]; omega)
        obtain ⟨hk1, hk2⟩ := decode_skip s i hi (by rw [hx]; omega)
        have hle := decode_le s i
        obtain ⟨r, hr⟩ : ∃ r, (Utf8.decode s i).1 = r := ⟨_, rfl⟩
        obtain ⟨d, hd⟩ : ∃ d, (Utf8.decode s i).2 = d := ⟨_, rfl⟩
        rw [hr] at hd1 hle
        rw [hd] at hd2 hk1 hk2
        have hnx' : ∀ ty, _ := hnx
        rw [hr, hd] at hnx'
        have HE := Lib.hid (no_skip HN.out HC.out hk2 hk1)
        clear hx hxl hno hbw hit HR hnx hk2 hr hd
        go_wp2_with fail
        by_cases h3 : r = 65533
        · subst h3
          refine (rune_err chars _ HC.out).mono ?_
          rintro e w3 ⟨rfl, hb3⟩
          have HB3 := Lib.hid ((below_iter (s := s) (pos := i + d) HB.out (Nat.le_refl _)).trans (hb3.mono (below_iter (s := s) (pos := i + d) HB.out (Nat.le_refl _)).size))
          have HI3 := Lib.hid ((hb3.block w.heap.size (Array.getElem?_eq_some_iff.1 (Lib.iterAt_heap _ _ _ _ (i + d) HI.out)).1).trans (Lib.iterAt_heap _ _ _ _ (i + d) HI.out))
          clear hb3 hnx'
          go_wp2_with fail
          go_roundg (gk - d)
          case measure => omega
          case rel => exact ⟨i + d, by omega, Lib.hid ⟨HE.out, HI3.out, HB3.out⟩⟩
        · refine (rune_high chars h4 HC.out hc9 (r : Int) (by omega) (by omega) (by omega) _).mono ?_
          rintro e w3 ⟨rfl, hb3⟩
          have HB3 := Lib.hid ((below_iter (s := s) (pos := i + d) HB.out (Nat.le_refl _)).trans (hb3.mono (below_iter (s := s) (pos := i + d) HB.out (Nat.le_refl _)).size))
          have HI3 := Lib.hid ((hb3.block w.heap.size (Array.getElem?_eq_some_iff.1 (Lib.iterAt_heap _ _ _ _ (i + d) HI.out)).1).trans (Lib.iterAt_heap _ _ _ _ (i + d) HI.out))
          clear hb3 hnx'
          go_wp2_with fail
          go_roundg (gk - d)
          case measure => omega
          case rel => exact ⟨i + d, by omega, Lib.hid ⟨HE.out, HI3.out, HB3.out⟩⟩
    · obtain rfl : i = s.size := by omega
      have hnx := fun ty => Lib.run_next_end_at (P := Try.prog) _ w.heap.size s s.size ty hit (by omega)
      have HB := Lib.hid hbw
      have HE := Lib.hid (show V = -1 by rw [← HV.out]; exact Lib.indexAny_none (by rw [← Lib.size_eq]; exact hno))
      clear hno hit hbw HR
      go_wp2_with fail
      go_ret
      exact ⟨ret_int HE.out.symm, HB.out⟩
theorem ix_any (s : ByteArray) (hs : s.size ≤ 4000) : IX s := fun W => by
  by_cases h8 : s.size ≤ 8
  · exact short_any s sg (by decide) sg_ascii (by decide) h8 W
  · refine (Try.strings_IndexAny_long (fun w => by kernel_rfl) s sg W (by decide) (by omega) (by omega) (by decide) (fun j b hb => sg_ascii b (mem_of_at hb))).mono ?_
    rintro e w' ⟨he, rfl⟩
    exact ⟨he, ((Below.refl _ _).alloc (Nat.le_refl _) _).alloc (by simp) _⟩
end Go.Proofs.Ytnnfoagdgoionab
