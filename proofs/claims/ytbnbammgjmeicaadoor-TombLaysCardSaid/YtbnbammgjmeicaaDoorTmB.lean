/- Ranges copied: To, slices.Clone, slices.Grow of nothing, slices.Concat of two; Ranges, Empty. -/
import Derived.Test.YtbnbammgjmeicaaDoorTmA
import Derived.Lib.AppendZeros
namespace Go.Proofs.YtbnbammgjmeicaaDoor.Tm
open Go.RowKit Go.Sort
set_option linter.unusedVariables false

theorem cell_below {w w' : World} {p : Addr} {v : Value} (h : w.cell? p = some v) (k : Below w.heap.size w w') : w'.cell? p = some v := Kept.of_below k p v h
theorem own_none {w : World} {B n c size : Nat} {e : TypeId} {A : Option Addr} {xs : List Value} (h : w.ownsRow B e size (.slice A n c) n xs) : A = none → c = 0 := by
  rintro rfl
  rcases h.2 with ⟨hv, _⟩ | ⟨g, cap, cur, hv, _⟩
  · injection hv with e1 e2 e3
  · injection hv with e1
    cases e1
/-- a new row of ranges -/
def RowP (w : World) (X : List Rg) (e : Ending) (w' : World) : Prop := ∃ A c, e = .returned (.slice A X.length c) ∧ w'.ownsRow w.heap.size 32 2 (.slice A X.length c) X.length (twoC .i64 X) ∧ Below w.heap.size w w'
def ORel (w : World) (X : List Rg) (v : Value) (wr : World) : Prop := ∃ (A : Option Addr) (n c : Nat), v = .slice A n c ∧ wr.ownsRow w.heap.size 32 2 (.slice A n c) n (twoC .i64 X) ∧ Below w.heap.size w wr
theorem ORel.row {w wr : World} {X : List Rg} {v : Value} (h : ORel w X v wr) : RowP w X (.returned v) wr := by
  obtain ⟨A, n, c, rfl, h1, h2⟩ := h
  obtain rfl := own_len h1
  exact ⟨A, c, rfl, h1, h2⟩
theorem ORel.start (w : World) : ORel w [] (.slice none 0 0) w := ⟨none, 0, 0, rfl, own_nil _ _ _ _, Below.refl _ _⟩

set_option maxHeartbeats 1000000 in
theorem to_any (A : Option Addr) (n c : Nat) (l : List Rg) (w : World) (hn : n = l.length) (h : Cl w A (twoC .i64 l)) (hl : l.length ≤ 1000) :
    Calls Tryd.prog 9 #[.slice A n c] w (RowP w l) := by
  subst hn
  have HL := Lib.hid h
  clear h
  go_enter Tryd.func9, Tryd.ntmps9
  go_wp2_with fail
  go_loopw [3, 8] (fun v i wr => ∃ k : Nat, k ≤ l.length ∧ i = .int .i64 k ∧ Hid (ORel w (l.take k) v wr)) (fun _ i _ => l.length - (intOf i).toNat)
  case atStart => exact ⟨0, by omega, rfl, Lib.hid (ORel.start w)⟩
  case round =>
    obtain ⟨k, hk, rfl, HR⟩ := hrel
    obtain ⟨B, m, d, rfl, hown, hb⟩ := HR.out
    by_cases hlt : k < l.length
    · have hki : (k : Int) < (l.length : Int) := by omega
      obtain ⟨p, hp⟩ := getElem?_lt hlt
      obtain ⟨b, off, rfl, hcell⟩ := (HL.out.below hb).twos (by omega)
      obtain ⟨q0, q1⟩ := hcell k p hp
      obtain rfl : m = k := by rw [own_len hown, List.length_take]; omega
      have HT := Lib.hid (take_snoc l m p hp)
      obtain ⟨p1, p2⟩ := p
      simp only at q0 q1
      have HO := Lib.hid (own_below hown ((Below.refl _ _).alloc (Nat.le_refl _) (.cells #[.int .i64 p1, .int .i64 p2] 61)))
      have HB := Lib.hid (hb.alloc hb.size (.cells #[.int .i64 p1, .int .i64 p2] 61))
      clear hcell hp hown hb HR
      go_wp2_with (at_builtin; refine put_rg (W := w) rfl _ _ rfl w.heap.size B m d (l.take m) rfl HO.out HB.out HB.out.size (by omega) (wr.heap.size + 1) (by simp) rfl (p1, p2) ?_; intro A2 c2 w3 hown3 hb3 hw3; rw [← HT.out] at hown3; have HR3 := Lib.hid (show ORel w (l.take (m + 1)) (.slice A2 (m + 1) c2) w3 from ⟨A2, m + 1, c2, rfl, hown3, hb3⟩); clear hown3 hb3 hw3)
      go_roundw
      case rel => exact ⟨m + 1, by omega, by go_num, HR3⟩
      case measure => simp [intOf]; omega
    · obtain rfl : k = l.length := by omega
      have hki : ¬ ((l.length : Int) < (l.length : Int)) := by omega
      have HP := Lib.hid (show RowP w l (.returned (.slice B m d)) wr from by
        have := (show ORel w (l.take l.length) (.slice B m d) wr from ⟨B, m, d, rfl, hown, hb⟩).row
        rwa [List.take_length] at this)
      clear hown hb HR
      go_wp2_with fail
      go_ret
      exact HP.out

theorem clone_nil (c : Nat) (w : World) :
    Calls Tryd.prog 22 #[.slice none 0 c] w fun e w' => e = .returned (.slice none 0 0) ∧ w = w' := by
  have hnil := fun (w : World) => Lib.run_eql_slice_nil (P := Tryd.prog) w 25 32 none 0 c 0 0 Tryd.underlying25
  go_enter Tryd.func22, Tryd.ntmps22
  go_wp2_with fail
  go_ret
  exact ⟨rfl, rfl⟩
theorem own_new0 (w : World) : (w.alloc (.cells #[] 32)).ownsRow w.heap.size 32 2 (.slice (some ⟨w.heap.size, 0, none⟩) 0 0) 0 (twoC .i64 []) :=
  ⟨by simp [twoC], .inr ⟨w.heap.size, 0, #[], rfl, Nat.le_refl _, heap_alloc_new w _, by omega, by unfold maxLen; omega, rfl, by simp [twoC]⟩⟩
theorem cl_none {w : World} {l : List Rg} (h : Cl w none (twoC .i64 l)) : l = [] := by
  rcases h with h0 | ⟨_, _, h0, _⟩
  · cases l with
    | nil => rfl
    | cons p r => exact absurd (congrArg List.length h0) (by rw [twoC_length]; simp)
  · cases h0
set_option maxRecDepth 100000 in
theorem clone_any (A : Option Addr) (n c : Nat) (l : List Rg) (w : World) (hn : n = l.length) (h : Cl w A (twoC .i64 l)) (hl : l.length ≤ 1000000) :
    Calls Tryd.prog 22 #[.slice A n c] w (RowP w l) := by
  subst hn
  cases A with
  | none =>
    obtain rfl := cl_none h
    refine (clone_nil c w).mono fun e w' ⟨he, hw⟩ => ?_
    subst hw
    exact ⟨none, 0, he, own_nil _ _ _ _, Below.refl _ _⟩
  | some ad =>
    have hnil := fun (w : World) => Lib.run_eql_slice_nil (P := Tryd.prog) w 25 32 (some ad) l.length c 0 0 Tryd.underlying25
    have hb0 : Below w.heap.size w (w.alloc (.cells #[] 32)) := (Below.refl _ _).alloc (Nat.le_refl _) _
    have HS := Lib.hid (h.below hb0)
    have HB0 := Lib.hid hb0
    have HO := Lib.hid (own_new0 w)
    clear h hb0
    go_enter Tryd.func22, Tryd.ntmps22
    go_wp2_with (at_builtin; refine app_rgs rfl _ _ rfl w.heap.size (some ⟨w.heap.size, 0, none⟩) 0 0 [] rfl HO.out (some ad) l.length c l rfl (fun e => by cases e) rfl HS.out l.length (by omega) hl HB0.out.size ?_; intro A2 c2 w2 ho2 hg2; rw [List.nil_append] at ho2; have HP := Lib.hid (show RowP w l (.returned (.slice A2 l.length c2)) w2 from ⟨A2, c2, rfl, ho2, HB0.out.grown hg2 HB0.out.size (fun k hk => (HO.out.lt k hk).1)⟩); clear ho2 hg2 hnil)
    go_ret
    exact HP.out

end Go.Proofs.YtbnbammgjmeicaaDoor.Tm
