/- Labels kept by what a closure says: only, and its two closures. -/
import Derived.Test.YtnnfoagdgoionabLbS
import Derived.Test.YtnnfoagdgoionabLbE
namespace Go.Proofs.Ytnnfoagdgoionab
open Go.RowKit
set_option linter.unusedVariables false

def OnlyP (w : World) (L : List Lab) (e : Ending) (w' : World) : Prop := ∃ A n c, e = .returned (.slice A n c) ∧ n = L.length ∧ w'.ownsRow w.heap.size 36 2 (.slice A n c) n (labC L) ∧ Below w.heap.size w w'
def ORel (w : World) (L : List Lab) (v : Value) (wr : World) : Prop := ∃ (A : Option Addr) (n c : Nat), v = .slice A n c ∧ wr.ownsRow w.heap.size 36 2 (.slice A n c) n (labC L) ∧ Below w.heap.size w wr
/-- has it a value? -/
def hasV (p : Lab) : Bool := !p.2.toList.isEmpty
theorem hasV_any (p : Lab) (w : World) : Calls Try.prog 33 #[.agg #[.string p.1, .string p.2]] w fun e w' => e = .returned (.bool (hasV p)) ∧ Below w.heap.size w w' := by
  obtain ⟨z, hz⟩ : ∃ z, p.2.toList.isEmpty = z := ⟨_, rfl⟩
  have HE := Lib.hid (show hasV p = !z by unfold hasV; rw [hz])
  rw [HE.out]
  go_enter Try.func33, Try.ntmps33
  go_wp2_with fail
  go_ret
  exact ⟨by simp, (Below.refl _ _).alloc (Nat.le_refl _) _⟩
/-- is its name among these? -/
def inN (ns : List ByteArray) (p : Lab) : Bool := Lib.containsS ns p.1
theorem contains_any (A : Option Addr) (n c : Nat) (ns : List ByteArray) (x : ByteArray) (w : World) (hn : n = ns.length) (h : Cl w A (stC ns)) (hl : ns.length ≤ 9223372036854775807) :
    Calls Try.prog 38 #[.slice A n c, .string x] w fun e w' => e = .returned (.bool (Lib.containsS ns x)) ∧ w = w' := by
  subst hn
  by_cases h0 : ns.length = 0
  · have hns : ns = [] := List.eq_nil_of_length_eq_zero h0
    subst hns
    exact (Try.slices_Contains_string_empty A c x w).mono fun e w' ⟨he, hw⟩ => ⟨by rw [he]; rfl, hw.symm⟩
  · obtain ⟨b, off, rfl, hc⟩ := h.some_ (by rw [stC_length]; omega)
    refine (Try.slices_Contains_string b off ns.length c ns x w (Nat.le_refl _) hl (fun j hj => ?_)).mono fun e w' ⟨he, hw⟩ => ⟨by rw [he, List.take_length], hw.symm⟩
    have := hc j _ (stC_at (List.getElem?_eq_getElem hj))
    rw [this, List.getD_eq_getElem?_getD, List.getElem?_eq_getElem hj]
    rfl
theorem inN_any (g : Nat) (A : Option Addr) (n c : Nat) (ns : List ByteArray) (p : Lab) (w : World) (hn : n = ns.length) (hg : w.cell? ⟨g, 0, none⟩ = some (.slice A n c)) (h : Cl w A (stC ns)) (hl : ns.length ≤ 9223372036854775807) :
    Calls Try.prog 37 #[.agg #[.string p.1, .string p.2], .pointer (some ⟨g, 0, none⟩)] w fun e w' => e = .returned (.bool (inN ns p)) ∧ Below w.heap.size w w' := by
  have HN := Lib.hid hn
  have HC := Lib.hid (h.below ((Below.refl _ _).alloc (Nat.le_refl _) (.cells #[.string p.1, .string p.2] 36)))
  have hlt := block_lt_of_cell hg
  simp only at hlt
  clear hn h
  go_enter Try.func37, Try.ntmps37
  go_wp2_with fail
  refine (contains_any A n c ns p.1 _ HN.out HC.out hl).mono ?_
  rintro e w' ⟨rfl, rfl⟩
  go_wp2_with fail
  go_ret
  exact ⟨rfl, (Below.refl _ _).alloc (Nat.le_refl _) _⟩
set_option maxHeartbeats 2000000 in
theorem onlyV_any  (A : Option Addr) (n c : Nat) (l : List Lab) (w : World) (hn : n = l.length) (h : Lw w A l) (hl : l.length ≤ 4398046511104) :
    Calls Try.prog 32 #[.slice A n c, .func (.func 33) #[] #[]] w fun e w' => OnlyP w (l.filter hasV) e w' := by
  subst hn
  have HL := Lib.hid h
  have hli : (l.length : Int) ≤ 4398046511104 := by omega
  clear h
  go_enter Try.func32, Try.ntmps32
  go_wp2_with fail
  go_loopw [5, 10] (fun v i wr => ∃ k : Nat, k ≤ l.length ∧ i = .int .i64 k ∧ Hid (ORel w ((l.take k).filter hasV) v wr)) (fun _ i _ => l.length - (intOf i).toNat)
  case atStart => exact ⟨0, by omega, rfl, Lib.hid ⟨none, 0, 0, rfl, own_nil _ _ _ _, Below.refl _ _⟩⟩
  case round =>
    obtain ⟨k, hk, rfl, HR⟩ := hrel
    obtain ⟨B, m, d, rfl, hown, hb⟩ := HR.out
    by_cases hlt : k < l.length
    · have hki : (k : Int) < (l.length : Int) := by omega
      obtain ⟨p, hp⟩ := getElem?_lt hlt
      obtain ⟨b, off, rfl, hcell⟩ := (HL.out.below hb).some_ (by omega)
      obtain ⟨q0, q1⟩ := hcell k p hp
      have hlb := block_lt_of_cell q0
      simp only at hlb
      have hm := own_nl hown
      have hml : m ≤ k := by
        rw [hm]
        have h1 := List.length_filter_le hasV (l.take k)
        rw [List.length_take] at h1
        omega
      have HT := Lib.hid (take_snoc l k p hp)
      have HO := Lib.hid hown
      have HB := Lib.hid hb
      have hw0 := hb.size
      obtain ⟨z, hz⟩ : ∃ z, hasV p = z := ⟨_, rfl⟩
      have HZ := Lib.hid hz
      clear hcell hp hown hb hm HR hz
      go_wp2_with fail
      have hw1 : Below wr.heap.size wr (wr.alloc (.cells #[.string p.1, .string p.2] 36)) := (Below.refl _ _).alloc (Nat.le_refl _) _
      have hb1 : Below w.heap.size w (wr.alloc (.cells #[.string p.1, .string p.2] 36)) := HB.out.alloc hw0 _
      refine (hasV_any p _).mono ?_
      rw [HZ.out]
      rintro e w2 ⟨rfl, hb2⟩
      have HB2 := Lib.hid (hb1.trans (hb2.mono hb1.size))
      have HO2 := Lib.hid (own_below (own_below HO.out hw1) hb2)
      obtain ⟨x0, x1⟩ := box2b (heap_alloc_new wr (.cells #[.string p.1, .string p.2] 36)) w2 hb2
      have hz2 : wr.heap.size < w2.heap.size := by have := hb2.size; simp at this; omega
      have hw2 : w.heap.size ≤ w2.heap.size := HB2.out.size
      clear hw1 hb1 hb2 q0 q1 hlb
      cases z with
      | true =>
        go_wp2_with (at_builtin; refine put_lab (W := w) rfl _ _ rfl w.heap.size B m d ((l.take k).filter hasV) rfl HO2.out HB2.out hw2 (by omega) w2.heap.size rfl rfl p ?_)
        intro A2 c2 w3 hown3 hb3 hw3
        have HF := Lib.hid (show (l.take k).filter hasV ++ [p] = (l.take (k + 1)).filter hasV by rw [HT.out, List.filter_append]; congr 1; rw [List.filter_cons, HZ.out]; rfl)
        rw [HF.out] at hown3
        have HR3 := Lib.hid (show ORel w ((l.take (k + 1)).filter hasV) (.slice A2 (m + 1) c2) w3 from ⟨A2, m + 1, c2, rfl, hown3, hb3⟩)
        clear hown3 hb3
        go_wp2_with fail
        go_roundw
        case rel => exact ⟨k + 1, by omega, by go_num, HR3⟩
        case measure => simp [intOf]; omega
      | false =>
        have HF := Lib.hid (show (l.take k).filter hasV = (l.take (k + 1)).filter hasV by rw [HT.out, List.filter_append, List.filter_cons, HZ.out]; simp)
        have hown3 := HO2.out
        rw [HF.out] at hown3
        have HR3 := Lib.hid (show ORel w ((l.take (k + 1)).filter hasV) (.slice B m d) w2 from ⟨B, m, d, rfl, hown3, HB2.out⟩)
        clear hown3
        go_wp2_with fail
        go_roundw
        case rel => exact ⟨k + 1, by omega, by go_num, HR3⟩
        case measure => simp [intOf]; omega
    · obtain rfl : k = l.length := by omega
      have hki : ¬ ((l.length : Int) < (l.length : Int)) := by omega
      rw [List.take_length] at hown
      have HP := Lib.hid (show OnlyP w (l.filter hasV) (.returned (.slice B m d)) wr from ⟨B, m, d, rfl, own_nl hown, hown, hb⟩)
      clear hown hb HR
      go_wp2_with fail
      go_ret
      exact HP.out
set_option maxHeartbeats 2000000 in
theorem onlyN_any (g : Nat) (NA : Option Addr) (nn nc : Nat) (ns : List ByteArray) (A : Option Addr) (n c : Nat) (l : List Lab) (w : World) (hn : n = l.length) (h : Lw w A l) (hl : l.length ≤ 4398046511104) (hnn : nn = ns.length) (hg : w.cell? ⟨g, 0, none⟩ = some (.slice NA nn nc)) (hns : Cl w NA (stC ns)) (hnl : ns.length ≤ 9223372036854775807) :
    Calls Try.prog 32 #[.slice A n c, .func (.func 37) #[] #[.pointer (some ⟨g, 0, none⟩)]] w fun e w' => OnlyP w (l.filter (inN ns)) e w' := by
  subst hn
  have HL := Lib.hid h
  have HNN := Lib.hid hnn
  have HG := Lib.hid hg
  have HNS := Lib.hid hns
  clear hnn hg hns
  have hli : (l.length : Int) ≤ 4398046511104 := by omega
  clear h
  go_enter Try.func32, Try.ntmps32
  go_wp2_with fail
  go_loopw [5, 10] (fun v i wr => ∃ k : Nat, k ≤ l.length ∧ i = .int .i64 k ∧ Hid (ORel w ((l.take k).filter (inN ns)) v wr)) (fun _ i _ => l.length - (intOf i).toNat)
  case atStart => exact ⟨0, by omega, rfl, Lib.hid ⟨none, 0, 0, rfl, own_nil _ _ _ _, Below.refl _ _⟩⟩
  case round =>
    obtain ⟨k, hk, rfl, HR⟩ := hrel
    obtain ⟨B, m, d, rfl, hown, hb⟩ := HR.out
    by_cases hlt : k < l.length
    · have hki : (k : Int) < (l.length : Int) := by omega
      obtain ⟨p, hp⟩ := getElem?_lt hlt
      obtain ⟨b, off, rfl, hcell⟩ := (HL.out.below hb).some_ (by omega)
      obtain ⟨q0, q1⟩ := hcell k p hp
      have hlb := block_lt_of_cell q0
      simp only at hlb
      have hm := own_nl hown
      have hml : m ≤ k := by
        rw [hm]
        have h1 := List.length_filter_le (inN ns) (l.take k)
        rw [List.length_take] at h1
        omega
      have HT := Lib.hid (take_snoc l k p hp)
      have HO := Lib.hid hown
      have HB := Lib.hid hb
      have hw0 := hb.size
      obtain ⟨z, hz⟩ : ∃ z, (inN ns) p = z := ⟨_, rfl⟩
      have HZ := Lib.hid hz
      clear hcell hp hown hb hm HR hz
      go_wp2_with fail
      have hw1 : Below wr.heap.size wr (wr.alloc (.cells #[.string p.1, .string p.2] 36)) := (Below.refl _ _).alloc (Nat.le_refl _) _
      have hb1 : Below w.heap.size w (wr.alloc (.cells #[.string p.1, .string p.2] 36)) := HB.out.alloc hw0 _
      refine (inN_any g NA nn nc ns p _ HNN.out ((hb1.cell (block_lt_of_cell HG.out)).trans HG.out) (HNS.out.below hb1) hnl).mono ?_
      rw [HZ.out]
      rintro e w2 ⟨rfl, hb2⟩
      have HB2 := Lib.hid (hb1.trans (hb2.mono hb1.size))
      have HO2 := Lib.hid (own_below (own_below HO.out hw1) hb2)
      obtain ⟨x0, x1⟩ := box2b (heap_alloc_new wr (.cells #[.string p.1, .string p.2] 36)) w2 hb2
      have hz2 : wr.heap.size < w2.heap.size := by have := hb2.size; simp at this; omega
      have hw2 : w.heap.size ≤ w2.heap.size := HB2.out.size
      clear hw1 hb1 hb2 q0 q1 hlb
      cases z with
      | true =>
        go_wp2_with (at_builtin; refine put_lab (W := w) rfl _ _ rfl w.heap.size B m d ((l.take k).filter (inN ns)) rfl HO2.out HB2.out hw2 (by omega) w2.heap.size rfl rfl p ?_)
        intro A2 c2 w3 hown3 hb3 hw3
        have HF := Lib.hid (show (l.take k).filter (inN ns) ++ [p] = (l.take (k + 1)).filter (inN ns) by rw [HT.out, List.filter_append]; congr 1; rw [List.filter_cons, HZ.out]; rfl)
        rw [HF.out] at hown3
        have HR3 := Lib.hid (show ORel w ((l.take (k + 1)).filter (inN ns)) (.slice A2 (m + 1) c2) w3 from ⟨A2, m + 1, c2, rfl, hown3, hb3⟩)
        clear hown3 hb3
        go_wp2_with fail
        go_roundw
        case rel => exact ⟨k + 1, by omega, by go_num, HR3⟩
        case measure => simp [intOf]; omega
      | false =>
        have HF := Lib.hid (show (l.take k).filter (inN ns) = (l.take (k + 1)).filter (inN ns) by rw [HT.out, List.filter_append, List.filter_cons, HZ.out]; simp)
        have hown3 := HO2.out
        rw [HF.out] at hown3
        have HR3 := Lib.hid (show ORel w ((l.take (k + 1)).filter (inN ns)) (.slice B m d) w2 from ⟨B, m, d, rfl, hown3, HB2.out⟩)
        clear hown3
        go_wp2_with fail
        go_roundw
        case rel => exact ⟨k + 1, by omega, by go_num, HR3⟩
        case measure => simp [intOf]; omega
    · obtain rfl : k = l.length := by omega
      have hki : ¬ ((l.length : Int) < (l.length : Int)) := by omega
      rw [List.take_length] at hown
      have HP := Lib.hid (show OnlyP w (l.filter (inN ns)) (.returned (.slice B m d)) wr from ⟨B, m, d, rfl, own_nl hown, hown, hb⟩)
      clear hown hb HR
      go_wp2_with fail
      go_ret
      exact HP.out
end Go.Proofs.Ytnnfoagdgoionab
