/- The document's Right and Apart. -/
import Derived.Test.YtpfceebmiolpeaaPlG
namespace Go.Proofs.Ytpfceebmiolpeaa.Pl
open Go.RowKit Go.Sort
set_option linter.unusedVariables false

noncomputable def rightB (l : List It) : Bool := @decide (RightL l) (Classical.propDecidable _)
theorem rightB_true {l : List It} (h : RightL l) : rightB l = true := @decide_eq_true _ (Classical.propDecidable _) h
theorem rightB_false {l : List It} (h : ¬ RightL l) : rightB l = false := @decide_eq_false _ (Classical.propDecidable _) h
theorem rightB_iff {l : List It} : rightB l = true ↔ RightL l := by
  by_cases h : RightL l
  · exact ⟨fun _ => h, fun _ => rightB_true h⟩
  · exact ⟨fun e => (by rw [rightB_false h] at e; cases e), fun g => absurd g h⟩
/-- the beginning is right -/
structure RtI (l : List It) (i : Nat) : Prop where
  one : ∀ x ∈ l.take i, RightI x
  num : ((l.take i).map It.q).Nodup
theorem RtI.start (l : List It) : RtI l 0 := ⟨fun x h => by simp at h, by simp⟩
theorem RtI.next {l : List It} {i : Nat} {x : It} (h : RtI l i) (hx : l[i]? = some x) (hr : RightI x) (hq : ∀ (j : Nat) (y : It), j < i → l[j]? = some y → y.q ≠ x.q) : RtI l (i + 1) := by
  refine ⟨fun y hy => ?_, ?_⟩
  · rw [take_snoc l i x hx] at hy
    rcases List.mem_append.1 hy with hy | hy
    · exact h.one y hy
    · simp at hy; rw [hy]; exact hr
  · rw [take_snoc l i x hx, List.map_append]
    refine List.nodup_append.2 ⟨h.num, by simp, fun a ha b hb => ?_⟩
    obtain ⟨y, hy, rfl⟩ := List.mem_map.1 ha
    simp at hb
    subst hb
    obtain ⟨j, hj, rfl⟩ := List.mem_iff_getElem.1 hy
    have hji : j < i := by rw [List.length_take] at hj; omega
    refine hq j _ hji ?_
    rw [← List.getElem?_take_of_lt hji]
    exact List.getElem?_eq_getElem hj
theorem RtI.all {l : List It} (h : RtI l l.length) : RightL l := by
  have e : l.take l.length = l := List.take_length
  exact ⟨fun x hx => h.one x (by rw [e]; exact hx), by have := h.num; rwa [e] at this⟩
theorem right_dup {l : List It} {i j : Nat} {x y : It} (hj : j < i) (hx : l[i]? = some x) (hy : l[j]? = some y) (h : y.q = x.q) : ¬ RightL l := fun hr => by
  obtain ⟨h1, rfl⟩ := List.getElem?_eq_some_iff.1 hx
  obtain ⟨h2, rfl⟩ := List.getElem?_eq_some_iff.1 hy
  have := List.pairwise_iff_getElem.1 (show (l.map It.q).Pairwise (· ≠ ·) from hr.2) j i (by simpa using h2) (by simpa using h1) hj
  simp at this
  exact this h
set_option maxHeartbeats 8000000 in
set_option maxRecDepth 100000 in
theorem rright_any (A : Option Addr) (n c : Nat) (l : List It) (w : World) (hn : n = l.length) (h : Cl w A (fC rfA l)) (hl : l.length ≤ 100000) :
    Calls Try.prog 13 #[.slice A n c] w fun e w' => e = .returned (.bool (rightB l)) ∧ Below w.heap.size w w' := by
  subst hn
  obtain ⟨n, hn⟩ : ∃ n, l.length = n := ⟨_, rfl⟩
  have HN := Lib.hid hn
  have HL := Lib.hid h
  rw [hn] at hl ⊢
  clear h hn
  go_enter Try.func13, Try.ntmps13
  go_wp2_with fail
  go_loopw [3] (fun i wr => ∃ j : Nat, j ≤ n ∧ i = .int .i64 j ∧ Hid (RtI l j ∧ Below w.heap.size w wr)) (fun i _ => n - (intOf i).toNat)
  case atStart => exact ⟨0, by omega, rfl, Lib.hid ⟨RtI.start l, Below.refl _ _⟩⟩
  case round =>
    obtain ⟨i, hi, rfl, HI⟩ := hrel
    have HIB := Lib.hid HI.out.2
    by_cases hlt : i < n
    · have hii : (i : Int) < (n : Int) := by omega
      obtain ⟨x, hx⟩ := getElem?_lt (l := l) (k := i) (by rw [HN.out]; exact hlt)
      have HX := Lib.hid hx
      have HRT := Lib.hid HI.out.1
      clear hx HI
      go_wp2_with fail
      go_loopw [4] (fun k wr => ∃ j : Nat, j ≤ i ∧ k = .int .i64 j ∧ Hid ((∀ (a : Nat) (y : It), a < j → l[a]? = some y → y.q ≠ x.q) ∧ Below w.heap.size w wr)) (fun k _ => i - (intOf k).toNat)
      case atStart => exact ⟨0, by omega, rfl, Lib.hid ⟨fun a y ha => absurd ha (by omega), HIB.out⟩⟩
      case round =>
        obtain ⟨k, hk, rfl, HK⟩ := hrel
        have HKB := Lib.hid HK.out.2
        obtain ⟨b, off, rfl, hcell⟩ := (HL.out.below HK.out.2).rfs (by rw [HN.out]; omega)
        obtain ⟨p0, p1, p2, p3⟩ := hcell i x HX.out
        by_cases hki : k < i
        · have hkI : (k : Int) < (i : Int) := by omega
          have hkn : (k : Int) < (n : Int) := by omega
          obtain ⟨y, hy⟩ := getElem?_lt (l := l) (k := k) (by rw [HN.out]; omega)
          obtain ⟨q0, q1, q2, q3⟩ := hcell k y hy
          have HY := Lib.hid hy
          clear hcell hy
          by_cases hq : y.q = x.q
          · have HF := Lib.hid (rightB_false (right_dup hki HX.out HY.out hq))
            go_wp2_with fail
            go_quiet (fail)
            go_wp2_with fail
            go_ret
            exact ⟨ret_bool HF.out.symm, below_drewN HKB.out _⟩
          · have HK2 := Lib.hid (fun nq => show (∀ (a : Nat) (z : It), a < k + 1 → l[a]? = some z → z.q ≠ x.q) ∧ Below w.heap.size w (wr.drewN nq) from ⟨fun a z ha hz => by
              by_cases e : a = k
              · subst e
                have := Option.some.inj (hz.symm.trans HY.out)
                rw [this]; exact hq
              · exact HK.out.1 a z (by omega) hz, below_drewN HKB.out _⟩)
            clear HK
            go_wp2_with fail
            go_quiet (fail)
            go_wp2_with fail
            go_roundw
            case rel => exact ⟨k + 1, by omega, by go_num, Lib.hid (HK2.out _)⟩
            case measure => simp [intOf]; omega
        · obtain rfl : k = i := by omega
          have hkI : ¬ ((k : Int) < (k : Int)) := by omega
          have HQ := Lib.hid HK.out.1
          have hb1 : Below wr.heap.size wr (wr.alloc (.cells (rfA x) 45)) := (Below.refl _ _).alloc (Nat.le_refl _) _
          have HB := Lib.hid (HKB.out.trans (hb1.mono HKB.out.size))
          obtain ⟨y0, y1, y2, y3⟩ := box4 (heap_alloc_new wr (.cells (rfA x) 45))
          unfold rfA at y0 y1 y2 y3 HB
          clear hcell HK hb1
          by_cases g1 : x.lv < 0
          · skip
            have HF := Lib.hid (rightB_false fun hr => by have hx := hr.1 x (mem_of_at HX.out); have := hx.l0; omega)
            go_wp2_with fail
            go_quiet (fail)
            go_wp2_with fail
            go_ret
            exact ⟨ret_bool HF.out.symm, below_drewN HB.out _⟩
          have d1 : decide (x.lv < 0) = false := by simpa using g1
          by_cases g2 : 4 < x.lv
          · skip
            have HF := Lib.hid (rightB_false fun hr => by have hx := hr.1 x (mem_of_at HX.out); have := hx.l4; omega)
            go_wp2_with fail
            go_quiet (fail)
            go_wp2_with fail
            go_ret
            exact ⟨ret_bool HF.out.symm, below_drewN HB.out _⟩
          have d2 : decide (4 < x.lv) = false := by simpa using g2
          by_cases g3 : x.lo < 0
          · skip
            have HF := Lib.hid (rightB_false fun hr => by have hx := hr.1 x (mem_of_at HX.out); have := hx.o0; omega)
            go_wp2_with fail
            go_quiet (fail)
            go_wp2_with fail
            go_ret
            exact ⟨ret_bool HF.out.symm, below_drewN HB.out _⟩
          have d3 : decide (x.lo < 0) = false := by simpa using g3
          by_cases g4 : 1099511627776 < x.lo
          · skip
            have HF := Lib.hid (rightB_false fun hr => by have hx := hr.1 x (mem_of_at HX.out); have := hx.o1; omega)
            go_wp2_with fail
            go_quiet (fail)
            go_wp2_with fail
            go_ret
            exact ⟨ret_bool HF.out.symm, below_drewN HB.out _⟩
          have d4 : decide (1099511627776 < x.lo) = false := by simpa using g4
          have HWD := Lib.hid (fun w => rwidth_any x.lv ⟨by omega, by omega⟩ w)
          obtain ⟨d, hd⟩ : ∃ d, wd x.lv = d := ⟨_, rfl⟩
          have hdp := wd_pos x.lv
          have HD := Lib.hid hd
          rw [hd] at hdp
          simp only [hd] at HWD
          have hd0 : ¬ d = 0 := by omega
          have hdb : (d == 0) = false := by simpa using hd0
          obtain ⟨r, hr⟩ : ∃ r, x.lo.tmod d = r := ⟨_, rfl⟩
          have hre : x.lo % d = r := by rw [← hr]; exact (Int.tmod_eq_emod_of_nonneg (by omega)).symm
          have HRE := Lib.hid hre
          have hsm : wrap64 (x.lo + d) = x.lo + d := IntWalk.wrap64_in _ ⟨by omega, by omega⟩
          clear hd hre
          by_cases g5 : r = 0
          · skip
            have d5 : (r != 0) = false := by simp [g5]
            by_cases g6 : x.hi = x.lo + d
            · skip
              have d6 : (x.hi != x.lo + d) = false := by simp [g6]
              rw [g6] at HB
              have HR2 := Lib.hid (show RtI l (k + 1) from HRT.out.next HX.out ⟨by omega, by omega, by omega, by omega, by rw [HD.out, HRE.out]; exact g5, by rw [HD.out]; exact g6⟩ HQ.out)
              go_wp2_with fail
              go_quiet (first | (go_at_call 26; refine Calls.quiet_of_same ((HWD.out _).mono fun e w' h => ⟨h.1, h.2.symm⟩)))
              go_wp2_with fail
              go_roundw
              case rel => exact ⟨k + 1, by omega, by go_num, Lib.hid ⟨HR2.out, below_drewN HB.out _⟩⟩
              case measure => simp [intOf]; omega
            · skip
              have d6 : (x.hi != x.lo + d) = true := by simpa using g6
              have HF := Lib.hid (rightB_false fun hr => by have hx := hr.1 x (mem_of_at HX.out); have := hx.hi; rw [HD.out] at this; exact g6 this)
              go_wp2_with fail
              go_quiet (first | (go_at_call 26; refine Calls.quiet_of_same ((HWD.out _).mono fun e w' h => ⟨h.1, h.2.symm⟩)))
              go_wp2_with fail
              go_ret
              exact ⟨ret_bool HF.out.symm, below_drewN HB.out _⟩
          · skip
            have d5 : (r != 0) = true := by simpa using g5
            have HF := Lib.hid (rightB_false fun hr => by have hx := hr.1 x (mem_of_at HX.out); have := hx.md; rw [HD.out, HRE.out] at this; exact g5 this)
            go_wp2_with fail
            go_quiet (first | (go_at_call 26; refine Calls.quiet_of_same ((HWD.out _).mono fun e w' h => ⟨h.1, h.2.symm⟩)))
            go_wp2_with fail
            go_ret
            exact ⟨ret_bool HF.out.symm, below_drewN HB.out _⟩
    · obtain rfl : i = n := by omega
      have hii : ¬ ((i : Int) < (i : Int)) := by omega
      have HF := Lib.hid (rightB_true (RtI.all (by rw [HN.out]; exact HI.out.1)))
      go_wp2_with fail
      go_ret
      exact ⟨ret_bool HF.out.symm, HIB.out⟩
end Go.Proofs.Ytpfceebmiolpeaa.Pl
