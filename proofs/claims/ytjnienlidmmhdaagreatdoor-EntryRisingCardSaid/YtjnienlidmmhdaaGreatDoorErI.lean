/- EntryRising, walked. -/
import Derived.Test.YtjnienlidmmhdaaGreatDoorErD
import Derived.Test.YtjnienlidmmhdaaGreatDoorErH
namespace Go.Proofs.YtjnienlidmmhdaaGreatDoor.En
open Go.RowKit Go.Sort
set_option linter.unusedVariables false
open Tl (tab_below tab_pos)

theorem piece1 {w : World} {b o : Nat} {l : List SV} (h : Sm w (some ⟨b, o, none⟩) l) {i : Nat} {s : SV} (hs : l[i]? = some s) : Sm w (some ⟨b, o + i * 9, none⟩) [s] := by
  have h1 := (h.drop i).take 1
  have e : (l.drop i).take 1 = [s] := by
    have hi := (List.getElem?_eq_some_iff.1 hs)
    rw [List.drop_eq_getElem_cons hi.1, List.take_succ_cons, List.take_zero, hi.2]
  rw [e] at h1
  exact h1
theorem piece2 {w : World} {b o : Nat} {l : List SV} (h : Sm w (some ⟨b, o, none⟩) l) {i : Nat} {p s : SV} (hp : l[i]? = some p) (hs : l[i + 1]? = some s) : Sm w (some ⟨b, o + i * 9, none⟩) [p, s] := by
  have h1 := (h.drop i).take 2
  have e : (l.drop i).take 2 = [p, s] := by
    have hi := (List.getElem?_eq_some_iff.1 hp)
    have hj := (List.getElem?_eq_some_iff.1 hs)
    rw [List.drop_eq_getElem_cons hi.1, List.take_succ_cons, hi.2, List.drop_eq_getElem_cons hj.1, List.take_succ_cons, List.take_zero, hj.2]
  rw [e] at h1
  exact h1
def OkTo (l : List SV) (k : Nat) (z : Bool) : Prop := z = true ↔ ∀ j, j < k → OkAt l j
theorem OkTo.start (l : List SV) : OkTo l 0 true := ⟨fun _ j hj => absurd hj (by omega), fun _ => rfl⟩
theorem OkTo.no {l : List SV} {k : Nat} (h : OkTo l k false) : OkTo l (k + 1) false := ⟨fun h => (by cases h), fun hh => absurd (h.2 fun j hj => hh j (by omega)) (by decide)⟩
theorem OkTo.step {l : List SV} {k : Nat} {z : Bool} (h : OkTo l k true) (hz : z = true ↔ OkAt l k) : OkTo l (k + 1) z :=
  ⟨fun hh j hj => by
    by_cases e : j = k
    · subst e; exact hz.1 hh
    · exact h.1 rfl j (by omega), fun hh => hz.2 (hh k (by omega))⟩
theorem OkTo.all {l : List SV} {z : Bool} (h : OkTo l l.length z) : z = risB l := by
  rw [Bool.eq_iff_iff, risB_true, ris_iff]
  exact h
theorem ok_first {l : List SV} {s : SV} (hs : l[0]? = some s) : risB [s] = true ↔ OkAt l 0 := by
  rw [risB_true, ris_one]
  constructor
  · intro h x hx
    rw [hs] at hx
    injection hx with hx
    exact ⟨hx ▸ h, fun p h0 => absurd h0 (by omega)⟩
  · intro h; exact (h s hs).1
theorem ok_one {l : List SV} {k : Nat} {s : SV} (hs : l[k]? = some s) (h : risB [s] = false) : ¬ OkAt l k := fun hk => by
  have := (hk s hs).1
  rw [risB_false, ris_one] at h
  exact h this
theorem ok_two {l : List SV} {k : Nat} {p s : SV} (hp : l[k]? = some p) (hs : l[k + 1]? = some s) (h1 : risB [s] = true) (hk : OkTo l (k + 1) true) : risB [p, s] = true ↔ OkAt l (k + 1) := by
  rw [risB_true, ris_two]
  constructor
  · rintro ⟨a1, a2, a3⟩ x hx
    rw [hs] at hx
    injection hx with hx
    subst hx
    refine ⟨a2, fun q _ hq => ?_⟩
    rw [show k + 1 - 1 = k by omega, hp] at hq
    injection hq with hq
    subst hq
    exact a3
  · intro h
    obtain ⟨a1, a2⟩ := h s hs
    exact ⟨(hk.1 rfl k (by omega) p hp).1, a1, a2 p (by omega) (by rw [show k + 1 - 1 = k by omega]; exact hp)⟩
set_option maxHeartbeats 4000000 in
set_option maxRecDepth 100000 in
theorem rising_main (b o n cp : Nat) (l : List SV) (u : Int) (w : World) (hn : n = l.length) (hn1 : (n : Int) ≤ 35184372088832) (hcp : n ≤ cp) (h : Sm w (some ⟨b, o, none⟩) l) (hu0 : 0 ≤ u) (hu1 : u ≤ 255) (hT : Tk.Tab w) :
    Calls Tryz.prog 12 #[.slice (some ⟨b, o, none⟩) n cp, .int .u8 u] w fun e w' => e = .returned (.bool true) ∧ Below w.heap.size w w' := by
  have HN := Lib.hid hn
  have HH := Lib.hid h
  have HT := Lib.hid hT
  have HU := Lib.hid (And.intro hu0 hu1)
  have HCP := Lib.hid hcp
  clear hn h hT hu0 hu1 hcp
  go_enter Tryz.func12, Tryz.ntmps12
  go_wp2_with fail
  go_loopw [5, 7, 13] (fun v5 _ v13 wr => ∃ (k : Nat) (z : Int), v5 = .int .i64 z ∧ v13 = .int .i64 (k : Int) ∧ k ≤ n ∧ Hid (Below w.heap.size w wr)) (fun _ _ v13 _ => n - (intOf v13).toNat)
  case atStart => exact ⟨0, 0, rfl, rfl, by omega, Lib.hid (Below.refl _ _)⟩
  case round =>
    obtain ⟨k, z, rfl, rfl, hk, HB⟩ := hrel
    by_cases hlt : k < n
    · have hki : (k : Int) < (n : Int) := by omega
      obtain ⟨s, hs⟩ : ∃ s, l[k]? = some s := ⟨_, List.getElem?_eq_getElem (by have := HN.out; omega)⟩
      obtain ⟨b', o', e', hat⟩ := HH.out.at_ hs
      injection e' with e'
      injection e' with e1 e2 _
      subst e1 e2
      obtain ⟨A, B, c, d, ⟨a0, a1, a2, a3, a4, a5, a6, a7, a8⟩, _⟩ := (hat.below HB.out).cells
      obtain ⟨W1, hW1⟩ : ∃ W1, wr.alloc (.cells #[.int .i64 s.t, .int .i64 s.h.k, .int .i64 s.h.s, .int .i64 s.h.z, .int .u64 s.h.zc, .int .u64 s.h.ct, .int .i64 s.h.sm, .slice A s.h.P.length c, .slice B s.h.Q.length d] 41 (0, 0)) = W1 := ⟨_, rfl⟩
      obtain ⟨g, hg⟩ : ∃ g, wr.heap.size = g := ⟨_, rfl⟩
      obtain ⟨⟨x0, x1, x2, x3, x4, x5, x6, x7, x8⟩, hb1⟩ := box9 hW1 hg
      have HX := Lib.hid (show Below w.heap.size w W1 from HB.out.trans (hb1.mono HB.out.size))
      obtain ⟨pl, hpl⟩ : ∃ pl : Int, (s.h.P.length : Int) = pl := ⟨_, rfl⟩
      obtain ⟨ql, hql⟩ : ∃ ql : Int, (s.h.Q.length : Int) = ql := ⟨_, rfl⟩
      clear hat hs hb1
      go_wp2_with fail
      go_roundw
      case rel => exact ⟨k + 1, _, rfl, by go_num, by omega, HX⟩
      case measure => simp [intOf]; omega
    · obtain rfl : k = n := by omega
      have hki : ¬ ((k : Int) < (k : Int)) := by omega
      clear hlt hk
      by_cases h600 : 600 < z
      · have HA := Lib.hid (awake15 wr (tab_below HT.out HB.out))
        go_wp2_with fail
        refine HA.out.mono ?_
        rintro e w2 ⟨rfl, hb2⟩
        have HB2 := Lib.hid (HB.out.trans (hb2.mono HB.out.size))
        clear hb2
        go_wp2_with fail
        go_ret
        exact ⟨rfl, HB2.out⟩
      · clear hki
        have S0 := Lib.hid (And.intro (OkTo.start l) HB.out)
        go_wp2_with fail
        go_loopw [8, 9, 35] (fun v8 _ v35 wr => ∃ (j : Nat) (y : Bool), v8 = .bool y ∧ v35 = .int .i64 (j : Int) ∧ j ≤ k ∧ Hid (OkTo l j y ∧ Below w.heap.size w wr)) (fun _ _ v35 _ => k - (intOf v35).toNat)
        case atStart => exact ⟨0, true, rfl, rfl, by omega, S0⟩
        case round =>
          clear S0 HB
          obtain ⟨j, y, rfl, rfl, hj, HB⟩ := hrel
          by_cases hlt : j < k
          · have hki : (j : Int) < (k : Int) := by omega
            obtain ⟨s, hs⟩ : ∃ s, l[j]? = some s := ⟨_, List.getElem?_eq_getElem (by have := HN.out; omega)⟩
            have hjc : j + 1 ≤ cp := by have := HCP.out; omega
            have hji : ((j : Int) + 1) ≤ (cp : Int) := by omega
            have HLT := Lib.hid hlt
            cases y with
            | false =>
              have HX := Lib.hid (And.intro HB.out.1.no HB.out.2)
              clear hs hjc hji
              go_wp2_with fail
              go_roundw
              case rel => exact ⟨j + 1, false, rfl, by go_num, by have := HLT.out; omega, HX⟩
              case measure => simp [intOf]; have := HLT.out; omega
            | true =>
              have HR1 := Lib.hid (rising_any (some ⟨b, o + j * 9, none⟩) 1 (cp - j) [s] _ rfl (by omega) ((piece1 HH.out hs).below HB.out.2))
              have HS := Lib.hid hs
              clear hs
              go_wp2_with fail
              refine HR1.out.mono ?_
              rintro e w2 ⟨rfl, hb2⟩
              have HB2 := Lib.hid (HB.out.2.trans (hb2.mono HB.out.2.size))
              clear hb2 HR1
              obtain ⟨r1, hr1⟩ : ∃ r1, risB [s] = r1 := ⟨_, rfl⟩
              have HRR := Lib.hid hr1
              rw [hr1]
              clear hr1
              cases r1 with
              | false =>
                have HX := Lib.hid (And.intro (HB.out.1.step (z := false) ⟨fun hh => (by cases hh), fun hh => absurd hh (ok_one HS.out HRR.out)⟩) HB2.out)
                go_wp2_with fail
                go_roundw
                case rel => exact ⟨j + 1, false, rfl, by go_num, by have := HLT.out; omega, HX⟩
                case measure => simp [intOf]; have := HLT.out; omega
              | true =>
                rcases Nat.eq_zero_or_pos j with hj0 | hj0
                · subst hj0
                  have HX := Lib.hid (And.intro (HB.out.1.step (z := true) ⟨fun _ => (ok_first HS.out).1 HRR.out, fun _ => rfl⟩) HB2.out)
                  go_wp2_with fail
                  go_roundw
                  case rel => exact ⟨0 + 1, true, rfl, by go_num, by have := HLT.out; omega, HX⟩
                  case measure => simp [intOf]; have := HLT.out; omega
                · obtain ⟨i, rfl⟩ : ∃ i, j = i + 1 := ⟨j - 1, by omega⟩
                  obtain ⟨p, hp⟩ : ∃ p, l[i]? = some p := ⟨_, List.getElem?_eq_getElem (by have := HN.out; omega)⟩
                  have HR2 := Lib.hid (rising_any (some ⟨b, o + i * 9, none⟩) 2 (cp - i) [p, s] w2 rfl (by omega) ((piece2 HH.out hp HS.out).below HB2.out))
                  have HP := Lib.hid hp
                  clear hp
                  go_wp2_with fail
                  rw [show i + 1 + 1 - i = 2 by omega]
                  refine HR2.out.mono ?_
                  rintro e w3 ⟨rfl, hb3⟩
                  have HB3 := Lib.hid (HB2.out.trans (hb3.mono HB2.out.size))
                  clear hb3 HR2
                  have HX := Lib.hid (And.intro (HB.out.1.step (z := risB [p, s]) (ok_two HP.out HS.out HRR.out HB.out.1)) HB3.out)
                  obtain ⟨r2, hr2⟩ : ∃ r2, risB [p, s] = r2 := ⟨_, rfl⟩
                  rw [hr2] at HX ⊢
                  clear hr2
                  go_wp2_with fail
                  go_roundw
                  case rel => exact ⟨i + 1 + 1, r2, rfl, by go_num, by have := HLT.out; omega, HX⟩
                  case measure => simp [intOf]; have := HLT.out; omega
          · obtain rfl : j = k := by omega
            have hki : ¬ ((j : Int) < (j : Int)) := by omega
            clear hlt hj
            have HY := Lib.hid (show y = risB l from OkTo.all (HN.out ▸ HB.out.1))
            have HR := Lib.hid (fun (W : World) (hb : Below w.heap.size w W) => rising_any (some ⟨b, o, none⟩) j cp l W HN.out (by omega) (HH.out.below hb))
            have HF := Lib.hid (fun (W : World) (hb : Below w.heap.size w W) => refrising_any (some ⟨b, o, none⟩) j cp l W HN.out (by omega) (HH.out.below hb))
            have HZ := Lib.hid (fun (W : World) => rising_any none 0 0 [] W rfl (by omega) (Sm.nil W none))
            obtain ⟨K, hK⟩ : ∃ K : Nat, u % ((j : Int) + 1) = (K : Int) := ⟨(u % ((j : Int) + 1)).toNat, by have := Int.emod_nonneg u (show (j : Int) + 1 ≠ 0 by omega); omega⟩
            have hKj : K ≤ j := by have := Int.emod_lt_of_pos u (show (0 : Int) < (j : Int) + 1 by omega); omega
            have HC := Lib.hid (fun (W : World) (hb : Below w.heap.size w W) => rising_any (some ⟨b, o, none⟩) K cp (l.take K) W (by rw [List.length_take]; have := HN.out; omega) (by omega) ((HH.out.take K).below hb))
            have hKc : (K : Int) ≤ (cp : Int) := by have := HCP.out; omega
            have htm : u.tmod ((j : Int) + 1) = (K : Int) := by rw [Int.tmod_eq_emod_of_nonneg HU.out.1]; exact hK
            have hnz : ¬ ((j : Int) + 1 = 0) := by omega
            have hwu : wrap64 u = u := IntWalk.wrap64_in _ ⟨by have := HU.out; omega, by have := HU.out; omega⟩
            have HB9 := Lib.hid HB.out.2
            obtain ⟨R, hR⟩ : ∃ R, risB l = R := ⟨_, rfl⟩
            have HRL := Lib.hid hR
            have hyR : y = R := HY.out.trans hR
            subst hyR
            have HAW := Lib.hid (awake15 wr (tab_below HT.out HB9.out))
            clear hR HB
            go_wp2_with fail
            clear hK htm hnz hki h600 hwu
            refine HAW.out.mono ?_
            rintro e w2 ⟨rfl, hb2⟩
            have HB2 := Lib.hid (show Below w.heap.size w w2 from HB9.out.trans (hb2.mono HB9.out.size))
            clear hb2 HAW
            have HC1 := Lib.hid (HR.out w2 HB2.out)
            rw [HRL.out] at HC1
            go_wp2_with fail
            refine HC1.out.mono ?_
            rintro e w3 ⟨rfl, hb3⟩
            have HB3 := Lib.hid (show Below w.heap.size w w3 from HB2.out.trans (hb3.mono HB2.out.size))
            clear hb3 HC1
            have hyy : (y == y) = true := by simp
            cases y with
            | false =>
              have HC2 := Lib.hid (HZ.out w3)
              rw [risB_nil] at HC2
              go_wp2_with fail
              refine HC2.out.mono ?_
              rintro e w4 ⟨rfl, hb4⟩
              have HB4 := Lib.hid (show Below w.heap.size w w4 from HB3.out.trans (hb4.mono HB3.out.size))
              clear hb4 HC2
              have HC3 := Lib.hid (HF.out w4 HB4.out)
              rw [HRL.out] at HC3
              go_wp2_with fail
              refine HC3.out.mono ?_
              rintro e w5 ⟨rfl, hb5⟩
              have HB5 := Lib.hid (show Below w.heap.size w w5 from HB4.out.trans (hb5.mono HB4.out.size))
              clear hb5 HC3
              go_wp2_with fail
              go_ret
              exact ⟨rfl, HB5.out⟩
            | true =>
              have HC0 := Lib.hid (HC.out w3 HB3.out)
              rw [show risB (l.take K) = true from risB_true.2 ((risB_true.1 HRL.out).take K)] at HC0
              go_wp2_with fail
              refine HC0.out.mono ?_
              rintro e w6 ⟨rfl, hb6⟩
              have HB6 := Lib.hid (show Below w.heap.size w w6 from HB3.out.trans (hb6.mono HB3.out.size))
              clear hb6 HC0
              have HC2 := Lib.hid (HZ.out w6)
              rw [risB_nil] at HC2
              go_wp2_with fail
              refine HC2.out.mono ?_
              rintro e w4 ⟨rfl, hb4⟩
              have HB4 := Lib.hid (show Below w.heap.size w w4 from HB6.out.trans (hb4.mono HB6.out.size))
              clear hb4 HC2
              have HC3 := Lib.hid (HF.out w4 HB4.out)
              rw [HRL.out] at HC3
              go_wp2_with fail
              refine HC3.out.mono ?_
              rintro e w5 ⟨rfl, hb5⟩
              have HB5 := Lib.hid (show Below w.heap.size w w5 from HB4.out.trans (hb5.mono HB4.out.size))
              clear hb5 HC3
              go_wp2_with fail
              go_ret
              exact ⟨rfl, HB5.out⟩
end Go.Proofs.YtjnienlidmmhdaaGreatDoor.En
