/- Items as the program has them, and as the document has them; the same numbers. -/
import Derived.Test.YtpfceebmiolpeaaPlB
namespace Go.Proofs.Ytpfceebmiolpeaa.Pl
open Go.RowKit Go.Sort
set_option linter.unusedVariables false

def ORel (e : TypeId) (f : It → Array Value) (w : World) (X : List It) (v : Value) (wr : World) : Prop := ∃ (A : Option Addr) (n c : Nat), v = .slice A n c ∧ wr.ownsRow w.heap.size e 4 (.slice A n c) n (fC f X) ∧ Below w.heap.size w wr
theorem ORel.row {e : TypeId} {f : It → Array Value} (hf : Four f) {w wr : World} {X : List It} {v : Value} (h : ORel e f w X v wr) : RowP e f w X v wr := by
  obtain ⟨A, n, c, rfl, h1, h2⟩ := h
  obtain rfl := own_len4 hf h1
  exact ⟨A, c, rfl, h1, h2⟩
theorem ORel.start (e : TypeId) (f : It → Array Value) (w : World) : ORel e f w [] (.slice none 0 0) w := ⟨none, 0, 0, rfl, own_nil _ _ _ _, Below.refl _ _⟩
theorem RowP.below {e : TypeId} {f : It → Array Value} {w0 w w' : World} {X : List It} {v : Value} (h : RowP e f w0 X v w) (hb : Below w.heap.size w w') : RowP e f w0 X v w' := by
  obtain ⟨A, c, rfl, h1, h2⟩ := h
  exact ⟨A, c, rfl, own_below h1 hb, h2.trans (hb.mono h2.size)⟩
set_option maxHeartbeats 1000000 in
theorem to_any (A : Option Addr) (n c : Nat) (l : List It) (w : World) (hn : n = l.length) (h : Cl w A (fC rfA l)) (hl : l.length ≤ 1000) :
    Calls Try.prog 15 #[.slice A n c] w fun e w' => ∃ v, e = .returned v ∧ RowP 78 itA w l v w' := by
  subst hn
  have HL := Lib.hid h
  clear h
  go_enter Try.func15, Try.ntmps15
  go_wp2_with fail
  go_loopw [3, 8] (fun v i wr => ∃ k : Nat, k ≤ l.length ∧ i = .int .i64 k ∧ Hid (ORel 78 itA w (l.take k) v wr)) (fun _ i _ => l.length - (intOf i).toNat)
  case atStart => exact ⟨0, by omega, rfl, Lib.hid (ORel.start _ _ w)⟩
  case round =>
    obtain ⟨k, hk, rfl, HR⟩ := hrel
    obtain ⟨B, m, d, rfl, hown, hb⟩ := HR.out
    by_cases hlt : k < l.length
    · have hki : (k : Int) < (l.length : Int) := by omega
      obtain ⟨p, hp⟩ := getElem?_lt hlt
      obtain ⟨b, off, rfl, hcell⟩ := (HL.out.below hb).rfs (by omega)
      obtain ⟨q0, q1, q2, q3⟩ := hcell k p hp
      obtain rfl : m = k := by rw [own_len4 fourI hown, List.length_take]; omega
      have HT := Lib.hid (take_snoc l m p hp)
      have HO := Lib.hid (own_below hown ((Below.refl _ _).alloc (Nat.le_refl _) (.cells (rfA p) 45)))
      have HB := Lib.hid (hb.alloc hb.size (.cells (rfA p) 45))
      clear hcell hp hown hb HR
      go_wp2_with (at_builtin; refine put_it (W := w) rfl _ _ rfl w.heap.size B m d (l.take m) rfl HO.out HB.out HB.out.size (by omega) (wr.heap.size + 1) (by simp) rfl p ?_; intro A2 c2 w3 hown3 hb3 hw3; rw [← HT.out] at hown3; have HR3 := Lib.hid (show ORel 78 itA w (l.take (m + 1)) (.slice A2 (m + 1) c2) w3 from ⟨A2, m + 1, c2, rfl, hown3, hb3⟩); clear hown3 hb3 hw3)
      go_roundw
      case rel => exact ⟨m + 1, by omega, by go_num, HR3⟩
      case measure => simp [intOf]; omega
    · obtain rfl : k = l.length := by omega
      have hki : ¬ ((l.length : Int) < (l.length : Int)) := by omega
      have HP := Lib.hid (show RowP 78 itA w l (.slice B m d) wr from by
        have := (show ORel 78 itA w (l.take l.length) (.slice B m d) wr from ⟨B, m, d, rfl, hown, hb⟩).row fourI
        rwa [List.take_length] at this)
      clear hown hb HR
      go_wp2_with fail
      go_ret
      exact ⟨_, rfl, HP.out⟩
set_option maxHeartbeats 1000000 in
theorem from_any (A : Option Addr) (n c : Nat) (l : List It) (w : World) (hn : n = l.length) (h : Cl w A (fC itA l)) (hl : l.length ≤ 1000) :
    Calls Try.prog 25 #[.slice A n c] w fun e w' => ∃ v, e = .returned v ∧ RowP 45 rfA w l v w' := by
  subst hn
  have HL := Lib.hid h
  clear h
  go_enter Try.func25, Try.ntmps25
  go_wp2_with fail
  go_loopw [3, 8] (fun v i wr => ∃ k : Nat, k ≤ l.length ∧ i = .int .i64 k ∧ Hid (ORel 45 rfA w (l.take k) v wr)) (fun _ i _ => l.length - (intOf i).toNat)
  case atStart => exact ⟨0, by omega, rfl, Lib.hid (ORel.start _ _ w)⟩
  case round =>
    obtain ⟨k, hk, rfl, HR⟩ := hrel
    obtain ⟨B, m, d, rfl, hown, hb⟩ := HR.out
    by_cases hlt : k < l.length
    · have hki : (k : Int) < (l.length : Int) := by omega
      obtain ⟨p, hp⟩ := getElem?_lt hlt
      obtain ⟨b, off, rfl, hcell⟩ := (HL.out.below hb).its (by omega)
      obtain ⟨q0, q1, q2, q3⟩ := hcell k p hp
      obtain rfl : m = k := by rw [own_len4 fourR hown, List.length_take]; omega
      have HT := Lib.hid (take_snoc l m p hp)
      have HO := Lib.hid (own_below hown ((Below.refl _ _).alloc (Nat.le_refl _) (.cells (itA p) 78)))
      have HB := Lib.hid (hb.alloc hb.size (.cells (itA p) 78))
      clear hcell hp hown hb HR
      go_wp2_with (at_builtin; refine put_rf (W := w) rfl _ _ rfl w.heap.size B m d (l.take m) rfl HO.out HB.out HB.out.size (by omega) (wr.heap.size + 1) (by simp) rfl p ?_; intro A2 c2 w3 hown3 hb3 hw3; rw [← HT.out] at hown3; have HR3 := Lib.hid (show ORel 45 rfA w (l.take (m + 1)) (.slice A2 (m + 1) c2) w3 from ⟨A2, m + 1, c2, rfl, hown3, hb3⟩); clear hown3 hb3 hw3)
      go_roundw
      case rel => exact ⟨m + 1, by omega, by go_num, HR3⟩
      case measure => simp [intOf]; omega
    · obtain rfl : k = l.length := by omega
      have hki : ¬ ((l.length : Int) < (l.length : Int)) := by omega
      have HP := Lib.hid (show RowP 45 rfA w l (.slice B m d) wr from by
        have := (show ORel 45 rfA w (l.take l.length) (.slice B m d) wr from ⟨B, m, d, rfl, hown, hb⟩).row fourR
        rwa [List.take_length] at this)
      clear hown hb HR
      go_wp2_with fail
      go_ret
      exact ⟨_, rfl, HP.out⟩
set_option maxHeartbeats 1000000 in
theorem ints_any (A B : Option Addr) (n c m d : Nat) (l L : List Int) (w : World) (hn : n = l.length) (hm : m = L.length) (hA : Cl w A (intsC .i64 l)) (hB : Cl w B (intsC .i64 L)) (hl : l.length ≤ 1000) (hL : L.length ≤ 1000) :
    Calls Try.prog 18 #[.slice A n c, .slice B m d] w fun e w' => e = .returned (.bool (decide (l = L))) ∧ Below w.heap.size w w' := by
  by_cases hlen : l.length = L.length
  · have hnm : m = n := by omega
    subst hnm
    have HA := Lib.hid hA
    have HB := Lib.hid hB
    have hml : m ≤ 1000 := by omega
    have Hn := Lib.hid hn
    have Hm := Lib.hid hm
    clear hA hB hlen hl hL hn hm
    go_enter Try.func18, Try.ntmps18
    go_wp2_with fail
    go_loopw [13] (fun i wr => ∃ k : Nat, k ≤ m ∧ i = .int .i64 k ∧ l.take k = L.take k ∧ Hid (Below w.heap.size w wr)) (fun i _ => m - (intOf i).toNat)
    case atStart => exact ⟨0, by omega, rfl, rfl, Lib.hid (Below.refl _ _)⟩
    case round =>
      obtain ⟨k, hk, rfl, htk, HR⟩ := hrel
      have HBW := Lib.hid HR.out
      by_cases hlt : k < m
      · have hki : (k : Int) < (m : Int) := by omega
        obtain ⟨x, hx⟩ := getElem?_lt (l := l) (k := k) (by rw [← Hn.out]; exact hlt)
        obtain ⟨y, hy⟩ := getElem?_lt (l := L) (k := k) (by rw [← Hm.out]; exact hlt)
        obtain ⟨b, off, rfl, hc1⟩ := (HA.out.below HR.out).ints (by rw [← Hn.out]; omega)
        obtain ⟨b2, off2, rfl, hc2⟩ := (HB.out.below HR.out).ints (by rw [← Hm.out]; omega)
        have q1 := hc1 k x hx
        have q2 := hc2 k y hy
        have HX := Lib.hid hx
        have HY := Lib.hid hy
        have HT := Lib.hid htk
        clear hc1 hc2 HR hx hy htk
        by_cases hxy : x = y
        · subst hxy
          have HT2 := Lib.hid (show l.take (k + 1) = L.take (k + 1) by rw [take_snoc l k x HX.out, take_snoc L k x HY.out, HT.out])
          go_wp2_with fail
          go_quiet (fail)
          go_wp2_with fail
          go_roundw
          case rel => exact ⟨k + 1, by omega, by go_num, HT2.out, Lib.hid (below_drewN HBW.out _)⟩
          case measure => simp [intOf]; omega
        · have HN := Lib.hid (show decide (l = L) = false by
            rw [decide_eq_false_iff_not]
            intro e
            subst e
            exact hxy (Option.some.inj (HX.out.symm.trans HY.out)))
          go_wp2_with fail
          go_quiet (fail)
          go_wp2_with fail
          go_ret
          exact ⟨ret_bool HN.out.symm, below_drewN HBW.out _⟩
      · obtain rfl : k = m := by omega
        have hki : ¬ ((k : Int) < (k : Int)) := by omega
        have HT := Lib.hid (show decide (l = L) = true by
          rw [List.take_of_length_le (by rw [← Hn.out]; exact Nat.le_refl _), List.take_of_length_le (by rw [← Hm.out]; exact Nat.le_refl _)] at htk
          simpa using htk)
        clear HR htk
        go_wp2_with fail
        go_ret
        exact ⟨ret_bool HT.out.symm, HBW.out⟩
  · have HN := Lib.hid (show decide (l = L) = false by
      rw [decide_eq_false_iff_not]
      intro e
      exact hlen (by rw [e]))
    have hne : ¬ ((n : Int) = (m : Int)) := by omega
    have hnb : ((n : Int) != (m : Int)) = true := by simpa using hne
    rw [HN.out]
    clear hA hB hn hm hlen hl hL
    go_enter Try.func18, Try.ntmps18
    go_wp2_with fail
    go_ret
    exact ⟨rfl, Below.refl _ _⟩
end Go.Proofs.Ytpfceebmiolpeaa.Pl
