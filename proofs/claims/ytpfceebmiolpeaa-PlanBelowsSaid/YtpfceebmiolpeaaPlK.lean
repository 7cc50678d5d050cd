/- The document's Apart. -/
import Derived.Test.YtpfceebmiolpeaaPlJ
namespace Go.Proofs.Ytpfceebmiolpeaa.Pl
open Go.RowKit Go.Sort
set_option linter.unusedVariables false

def AptI (l : List It) (i : Nat) : Prop := ∀ (a b : Nat) (x y : It), a < b → b < i → l[a]? = some x → l[b]? = some y → Disj x y
theorem AptI.all {l : List It} (h : AptI l l.length) : Apt l :=
  List.pairwise_iff_getElem.2 fun i j hi hj hij => h i j _ _ hij hj (List.getElem?_eq_getElem hi) (List.getElem?_eq_getElem hj)
theorem apt_bad {l : List It} {a b : Nat} {x y : It} (hab : a < b) (hx : l[a]? = some x) (hy : l[b]? = some y) (h : ¬ Disj x y) : ¬ Apt l := fun ha => by
  obtain ⟨h1, rfl⟩ := List.getElem?_eq_some_iff.1 hx
  obtain ⟨h2, rfl⟩ := List.getElem?_eq_some_iff.1 hy
  exact h (List.pairwise_iff_getElem.1 ha a b h1 h2 hab)
set_option maxHeartbeats 8000000 in
set_option maxRecDepth 100000 in
theorem rapart_any (A : Option Addr) (n c : Nat) (l : List It) (w : World) (hn : n = l.length) (h : Cl w A (fC rfA l)) (hl : l.length ≤ 100000) :
    Calls Try.prog 20 #[.slice A n c] w fun e w' => e = .returned (.bool (aptB l)) ∧ Below w.heap.size w w' := by
  subst hn
  obtain ⟨n, hn⟩ : ∃ n, l.length = n := ⟨_, rfl⟩
  have HN := Lib.hid hn
  have HL := Lib.hid h
  rw [hn] at hl ⊢
  clear h hn
  go_enter Try.func20, Try.ntmps20
  go_wp2_with fail
  go_loopw [3] (fun i wr => ∃ j : Nat, j ≤ n ∧ i = .int .i64 j ∧ Hid (AptI l j ∧ Below w.heap.size w wr)) (fun i _ => n - (intOf i).toNat)
  case atStart => exact ⟨0, by omega, rfl, Lib.hid ⟨fun a b x y hab hb => absurd hb (by omega), Below.refl _ _⟩⟩
  case round =>
    obtain ⟨i, hi, rfl, HI⟩ := hrel
    have HIB := Lib.hid HI.out.2
    by_cases hlt : i < n
    · have hii : (i : Int) < (n : Int) := by omega
      obtain ⟨x, hx⟩ := getElem?_lt (l := l) (k := i) (by rw [HN.out]; exact hlt)
      have HX := Lib.hid hx
      have HRT := Lib.hid HI.out.1
      clear hx HI
      go_wp2_with fail
      go_loopw [4] (fun k wr => ∃ j : Nat, j ≤ i ∧ k = .int .i64 j ∧ Hid ((∀ (a : Nat) (y : It), a < j → l[a]? = some y → Disj y x) ∧ Below w.heap.size w wr)) (fun k _ => i - (intOf k).toNat)
      case atStart => exact ⟨0, by omega, rfl, Lib.hid ⟨fun a y ha => absurd ha (by omega), HIB.out⟩⟩
      case round =>
        obtain ⟨k, hk, rfl, HK⟩ := hrel
        have HKB := Lib.hid HK.out.2
        obtain ⟨b, off, rfl, hcell⟩ := (HL.out.below HK.out.2).rfs (by rw [HN.out]; omega)
        obtain ⟨p0, p1, p2, p3⟩ := hcell i x HX.out
        by_cases hki : k < i
        · have hkI : (k : Int) < (i : Int) := by omega
          have hkn : (k : Int) < (n : Int) := by omega
          obtain ⟨y, hy⟩ := getElem?_lt (l := l) (k := k) (by rw [HN.out]; omega)
          obtain ⟨q0, q1, q2, q3⟩ := hcell k y hy
          have HY := Lib.hid hy
          clear hcell hy
          by_cases g1 : x.lo < y.hi
          · by_cases g2 : y.lo < x.hi
            · have HF := Lib.hid (aptB_false (apt_bad hki HY.out HX.out fun hd => hd ⟨g2, g1⟩))
              go_wp2_with fail
              go_quiet (fail)
              go_wp2_with fail
              go_ret
              exact ⟨ret_bool HF.out.symm, below_drewN HKB.out _⟩
            · have d2 : decide (y.lo < x.hi) = false := by simpa using g2
              have HK2 := Lib.hid (fun nq => show (∀ (a : Nat) (z : It), a < k + 1 → l[a]? = some z → Disj z x) ∧ Below w.heap.size w (wr.drewN nq) from ⟨fun a z ha hz => by
                by_cases e : a = k
                · subst e
                  have := Option.some.inj (hz.symm.trans HY.out)
                  rw [this]; exact fun h => g2 h.1
                · exact HK.out.1 a z (by omega) hz, below_drewN HKB.out _⟩)
              clear HK
              go_wp2_with fail
              go_quiet (fail)
              go_wp2_with fail
              go_roundw
              case rel => exact ⟨k + 1, by omega, by go_num, Lib.hid (HK2.out _)⟩
              case measure => simp [intOf]; omega
          · have d1 : decide (x.lo < y.hi) = false := by simpa using g1
            have HK2 := Lib.hid (fun nq => show (∀ (a : Nat) (z : It), a < k + 1 → l[a]? = some z → Disj z x) ∧ Below w.heap.size w (wr.drewN nq) from ⟨fun a z ha hz => by
              by_cases e : a = k
              · subst e
                have := Option.some.inj (hz.symm.trans HY.out)
                rw [this]; exact fun h => g1 h.2
              · exact HK.out.1 a z (by omega) hz, below_drewN HKB.out _⟩)
            clear HK
            go_wp2_with fail
            go_quiet (fail)
            go_wp2_with fail
            go_roundw
            case rel => exact ⟨k + 1, by omega, by go_num, Lib.hid (HK2.out _)⟩
            case measure => simp [intOf]; omega
        · obtain rfl : k = i := by omega
          have hkI : ¬ ((k : Int) < (k : Int)) := by omega
          have HQ := Lib.hid (show AptI l (k + 1) from fun a b u v hab hb hu hv => by
            by_cases e : b = k
            · subst e
              have := Option.some.inj (hv.symm.trans HX.out)
              rw [this]; exact HK.out.1 a u hab hu
            · exact HRT.out a b u v hab (by omega) hu hv)
          clear hcell HK
          go_wp2_with fail
          go_roundw
          case rel => exact ⟨k + 1, by omega, by go_num, Lib.hid ⟨HQ.out, HKB.out⟩⟩
          case measure => simp [intOf]; omega
    · obtain rfl : i = n := by omega
      have hii : ¬ ((i : Int) < (i : Int)) := by omega
      have HF := Lib.hid (aptB_true (AptI.all (by rw [HN.out]; exact HI.out.1)))
      go_wp2_with fail
      go_ret
      exact ⟨ret_bool HF.out.symm, HIB.out⟩
end Go.Proofs.Ytpfceebmiolpeaa.Pl
